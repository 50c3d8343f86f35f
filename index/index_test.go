package index

import (
	"slices"
	"testing"

	"trommel/api"
	"trommel/terms"
)

func cond(kind int, a, b string) api.Cond {
	return api.Cond{Kind: kind, A: api.Value{S: a}, B: api.Value{S: b}}
}

func wantMet(t *testing.T, ix *Index, word string, want ...int) {
	t.Helper()
	event, _, ok := terms.ReadEvent([]int{api.Word}, []api.Field{{V: api.Value{S: word}}})
	if !ok {
		t.Fatalf("no event: %q", word)
	}
	if got := ix.Met(&event); !slices.Equal(got, want) {
		t.Errorf("Met(%q) = %v, want %v", word, got, want)
	}
}

// size counts all that an index holds.
func size(ix *Index) int {
	n := len(ix.free)
	for _, kinds := range ix.shelves {
		for _, s := range kinds {
			for _, e := range s {
				n += 1 + len(e.owners)
			}
		}
	}
	return n
}

func TestCounts(t *testing.T) {
	var ix Index
	has, is, begins := cond(api.Has, "", ""), cond(api.Is, "ab", ""), cond(api.Begins, "a", "")
	for id, conds := range [][]api.Cond{
		{has}, {has, begins}, {is, has, begins}, nil, {is, cond(api.Is, "b", "")}, {has, has, begins, has},
	} {
		ix.Add(terms.NewFilter(id, conds))
	}
	wantMet(t, &ix, "ab", 0, 1, 2, 3, 5)
	wantMet(t, &ix, "a", 0, 1, 3, 5)
	wantMet(t, &ix, "b", 0, 3)
	var none terms.Event
	if got := ix.Met(&none); !slices.Equal(got, []int{3}) {
		t.Errorf("Met of an event without fields = %v", got)
	}
}

// Each condition is held against each word alone, as it would be without a shelf of others around it.
func TestShelvesLoseNothing(t *testing.T) {
	words := []string{"", "\x00", "a", "aa", "ab", "abc", "b", "ba", "\xff"}
	var ix Index
	var conds []api.Cond
	for kind := api.Is; kind <= api.Begins; kind++ {
		for _, a := range words {
			for _, b := range words {
				if kind == api.Between || b == "" {
					ix.Add(terms.NewFilter(len(conds), []api.Cond{cond(kind, a, b)}))
					conds = append(conds, cond(kind, a, b))
				}
			}
		}
	}
	for _, x := range words {
		var want []int
		for id, c := range conds {
			if terms.Holds(c, api.Value{S: x}) {
				want = append(want, id)
			}
		}
		wantMet(t, &ix, x, want...)
	}
}

func TestRemoveLeavesNothing(t *testing.T) {
	has, is := cond(api.Has, "", ""), cond(api.Is, "ab", "")
	filters := []terms.Filter{
		terms.NewFilter(4, nil),
		terms.NewFilter(2, []api.Cond{has}),
		terms.NewFilter(9, []api.Cond{is, has, is}),
		terms.NewFilter(0, []api.Cond{is}),
	}
	var ix Index
	for _, f := range filters {
		ix.Add(f)
	}
	wantMet(t, &ix, "ab", 0, 2, 4, 9)
	ix.Remove(filters[2])
	wantMet(t, &ix, "ab", 0, 2, 4)
	ix.Remove(filters[0])
	ix.Remove(filters[3])
	wantMet(t, &ix, "ab", 2)
	ix.Remove(filters[1])
	wantMet(t, &ix, "ab")
	if n := size(&ix); n != 0 {
		t.Errorf("%d things are left", n)
	}
}
