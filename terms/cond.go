package terms

import (
	"strings"

	"trommel/api"
)

// BadCond gives the number of the first condition that may not be, and whether there is one.
func BadCond(schema []int, filter []api.Cond) (int, bool) {
	for i, c := range filter {
		if !condMayBe(schema, c) {
			return i, true
		}
	}
	return 0, false
}

func condMayBe(schema []int, c api.Cond) bool {
	if !hasAttr(schema, c.Attr) || c.Kind < api.Is || c.Kind > api.Has {
		return false
	}
	attrType := schema[c.Attr]
	if c.Kind == api.Begins && attrType != api.Word {
		return false
	}
	return firstMayBe(attrType, c) && secondMayBe(attrType, c)
}

func firstMayBe(attrType int, c api.Cond) bool {
	if c.Kind == api.Has {
		return c.A == api.Value{}
	}
	return fits(attrType, c.A)
}

func secondMayBe(attrType int, c api.Cond) bool {
	if c.Kind == api.Between {
		return fits(attrType, c.B)
	}
	return c.B == api.Value{}
}

// CopyFilter gives a filter that shares no memory with the given one.
// The words are copied too: a short piece of a long text would keep all of it.
func CopyFilter(filter []api.Cond) []api.Cond {
	l := make([]api.Cond, len(filter))
	for i, c := range filter {
		c.A.S = strings.Clone(c.A.S)
		c.B.S = strings.Clone(c.B.S)
		l[i] = c
	}
	return l
}

// holds tells whether the value x of a condition's attribute meets the condition.
func holds(c api.Cond, x api.Value) bool {
	side := compare(x, c.A)
	switch c.Kind {
	case api.Is:
		return side == 0
	case api.IsNot:
		return side != 0
	case api.Below:
		return side < 0
	case api.AtMost:
		return side <= 0
	case api.Above:
		return side > 0
	case api.AtLeast:
		return side >= 0
	case api.Between:
		return side >= 0 && compare(x, c.B) <= 0
	case api.Begins:
		return strings.HasPrefix(x.S, c.A.S)
	}
	return c.Kind == api.Has
}
