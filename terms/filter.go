package terms

import (
	"slices"
	"strings"

	"trommel/api"
)

// Filter is a filter as it is kept: its conditions rise and are each there once, so that filters that ask the same look the same.
type Filter struct {
	Id    int
	Conds []api.Cond
}

// NewFilter makes a filter that shares no memory with the conditions handed in.
// The words are copied too: a short piece of a long text would keep all of it.
func NewFilter(id int, conds []api.Cond) Filter {
	l := make([]api.Cond, len(conds))
	for i, c := range conds {
		c.A.S = strings.Clone(c.A.S)
		c.B.S = strings.Clone(c.B.S)
		l[i] = c
	}
	slices.SortFunc(l, CompareConds)
	return Filter{id, slices.Compact(l)}
}

// On gives the conditions for an attribute.
func (f Filter) On(attr int) []api.Cond {
	var l []api.Cond
	for _, c := range f.Conds {
		if c.Attr == attr {
			l = append(l, c)
		}
	}
	return l
}
