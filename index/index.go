// Package index: an index of conditions, in which each filter counts how many of its own are met.
package index

import (
	"slices"
	"sort"

	"trommel/api"
	"trommel/terms"
)

// Index holds each condition once, whatever number of filters have it. An empty one is ready for use.
type Index struct {
	// The filters without conditions: they are met, and have nothing to count.
	free []int
	// By attribute and kind.
	shelves [api.MaxAttrs][api.Has + 1]shelf
}

// shelf holds the conditions of one attribute and one kind, rising.
type shelf []entry

type entry struct {
	cond   api.Cond
	owners []owner
}

// owner is a filter that has the condition; needs is how many it has in all.
type owner struct {
	id, needs int
}

// Add puts in a filter.
func (ix *Index) Add(f terms.Filter) {
	if len(f.Conds) == 0 {
		ix.free = append(ix.free, f.Id)
	}
	for _, c := range f.Conds {
		s := &ix.shelves[c.Attr][c.Kind]
		place, found := s.find(c)
		if !found {
			*s = slices.Insert(*s, place, entry{cond: c})
		}
		e := &(*s)[place]
		e.owners = append(e.owners, owner{f.Id, len(f.Conds)})
	}
}

// Remove takes out a filter that was put in.
func (ix *Index) Remove(f terms.Filter) {
	ix.free = slices.DeleteFunc(ix.free, func(id int) bool { return id == f.Id })
	for _, c := range f.Conds {
		s := &ix.shelves[c.Attr][c.Kind]
		place, _ := s.find(c)
		e := &(*s)[place]
		e.owners = slices.DeleteFunc(e.owners, func(o owner) bool { return o.id == f.Id })
		if len(e.owners) == 0 {
			*s = slices.Delete(*s, place, place+1)
		}
	}
}

// find gives the place at which the condition is or would be, and whether it is there.
func (s shelf) find(c api.Cond) (int, bool) {
	return slices.BinarySearchFunc(s, c, func(e entry, c api.Cond) int {
		return terms.CompareConds(e.cond, c)
	})
}

// Met gives the numbers of the filters that an event meets, rising.
func (ix *Index) Met(event *terms.Event) []int {
	met := slices.Clone(ix.free)
	counts := map[int]int{}
	for attr := range ix.shelves {
		x, has := event.Value(attr)
		if !has {
			continue
		}
		for kind, s := range ix.shelves[attr] {
			for _, e := range s.near(kind, x) {
				if terms.Holds(e.cond, x) {
					met = e.count(counts, met)
				}
			}
		}
	}
	slices.Sort(met)
	return met
}

// near gives the part of a shelf of that kind outside which x meets nothing, so that not all of it need be gone through.
func (s shelf) near(kind int, x api.Value) []entry {
	from, behind := s.split(x)
	switch kind {
	case api.Is:
		return s[from:behind]
	case api.Below, api.AtMost:
		return s[from:]
	case api.Above, api.AtLeast, api.Between, api.Begins:
		return s[:behind]
	}
	return s
}

// split gives the place of the first condition whose A is not ahead of x, and of the first whose A is behind x.
func (s shelf) split(x api.Value) (int, int) {
	from := sort.Search(len(s), func(i int) bool { return terms.Compare(s[i].cond.A, x) >= 0 })
	behind := sort.Search(len(s), func(i int) bool { return terms.Compare(s[i].cond.A, x) > 0 })
	return from, behind
}

// count counts a condition that is met for each filter that has it, and adds to met those that miss no more.
func (e entry) count(counts map[int]int, met []int) []int {
	for _, o := range e.owners {
		counts[o.id]++
		if counts[o.id] == o.needs {
			met = append(met, o.id)
		}
	}
	return met
}
