package terms

import (
	"cmp"
	"strings"

	"trommel/api"
)

// BadCond gives the number of the first condition that may not be, and whether there is one.
func BadCond(schema []int, filter []api.Cond) (int, bool) {
	for i, c := range filter {
		if !condMayBe(schema, c) {
			return i, true
		}
	}
	return 0, false
}

// KindMayBe tells whether there is such a kind of condition.
func KindMayBe(kind int) bool {
	return kind >= api.Is && kind <= api.Has
}

func condMayBe(schema []int, c api.Cond) bool {
	if !hasAttr(schema, c.Attr) || !KindMayBe(c.Kind) {
		return false
	}
	attrType := schema[c.Attr]
	if c.Kind == api.Begins && attrType != api.Word {
		return false
	}
	return firstMayBe(attrType, c) && secondMayBe(attrType, c)
}

func firstMayBe(attrType int, c api.Cond) bool {
	if c.Kind == api.Has {
		return c.A == api.Value{}
	}
	return fits(attrType, c.A)
}

func secondMayBe(attrType int, c api.Cond) bool {
	if c.Kind == api.Between {
		return fits(attrType, c.B)
	}
	return c.B == api.Value{}
}

// CompareConds is below 0 if x is to stand ahead of y, 0 if they are the same, and above 0 if x is to stand behind y.
func CompareConds(x, y api.Cond) int {
	return cmp.Or(cmp.Compare(x.Attr, y.Attr), cmp.Compare(x.Kind, y.Kind), Compare(x.A, y.A), Compare(x.B, y.B))
}

// Holds tells whether the value x of a condition's attribute meets the condition.
func Holds(c api.Cond, x api.Value) bool {
	side := Compare(x, c.A)
	switch c.Kind {
	case api.Is:
		return side == 0
	case api.IsNot:
		return side != 0
	case api.Below:
		return side < 0
	case api.AtMost:
		return side <= 0
	case api.Above:
		return side > 0
	case api.AtLeast:
		return side >= 0
	case api.Between:
		return side >= 0 && Compare(x, c.B) <= 0
	case api.Begins:
		return strings.HasPrefix(x.S, c.A.S)
	}
	return c.Kind == api.Has
}
