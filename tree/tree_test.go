package tree

import (
	"slices"
	"testing"

	"trommel/api"
	"trommel/terms"
)

func is(attr int, n int64) api.Cond {
	return api.Cond{Attr: attr, Kind: api.Is, A: api.Value{N: n}}
}

func above(attr int, n int64) api.Cond {
	return api.Cond{Attr: attr, Kind: api.Above, A: api.Value{N: n}}
}

// build makes a tree for the schema Number, Number, Number; filters have their places as numbers.
func build(order []int, filters ...[]api.Cond) *Tree {
	var l []terms.Filter
	for id, conds := range filters {
		l = append(l, terms.NewFilter(id, conds))
	}
	return Build(order, l)
}

func wantMet(t *testing.T, tr *Tree, fields []api.Field, want ...int) {
	t.Helper()
	event, _, ok := terms.ReadEvent([]int{api.Number, api.Number, api.Number}, fields)
	if !ok {
		t.Fatalf("no event: %v", fields)
	}
	if got := tr.Met(&event); !slices.Equal(got, want) {
		t.Errorf("Met(%v) = %v, want %v", fields, got, want)
	}
}

func field(attr int, n int64) api.Field {
	return api.Field{Attr: attr, V: api.Value{N: n}}
}

func TestNodes(t *testing.T) {
	for _, c := range []struct {
		order   []int
		filters [][]api.Cond
		want    int
	}{
		{[]int{0, 1, 2}, nil, 1},
		{[]int{0, 1, 2}, [][]api.Cond{nil, nil}, 1},
		{[]int{0, 1, 2}, [][]api.Cond{{is(0, 1)}}, 2},
		{[]int{0, 1, 2}, [][]api.Cond{{is(2, 1)}}, 4},
		{[]int{2, 1, 0}, [][]api.Cond{{is(2, 1)}}, 2},
		{[]int{0, 1, 2}, [][]api.Cond{{is(0, 1)}, {is(0, 1)}, {is(0, 2)}}, 3},
		{[]int{0, 1, 2}, [][]api.Cond{{is(0, 1)}, {above(0, 1)}, {is(0, 1), above(0, 1)}}, 4},
		{[]int{0, 1, 2}, [][]api.Cond{{is(0, 1), is(1, 1)}, {is(0, 1), is(1, 2)}}, 4},
		{[]int{1, 0, 2}, [][]api.Cond{{is(0, 1), is(1, 1)}, {is(0, 1), is(1, 2)}}, 5},
	} {
		if got := build(c.order, c.filters...).Nodes(); got != c.want {
			t.Errorf("Nodes of %v, %v = %d, want %d", c.order, c.filters, got, c.want)
		}
	}
}

func TestMet(t *testing.T) {
	for _, order := range [][]int{{0, 1, 2}, {2, 1, 0}, {1, 2, 0}} {
		tr := build(order,
			[]api.Cond{is(0, 3)}, []api.Cond{is(0, 1)}, []api.Cond{is(0, 2)}, []api.Cond{above(0, 1)},
			nil, []api.Cond{above(0, 1), is(0, 3)}, []api.Cond{is(0, 2), is(2, 7)}, []api.Cond{is(2, 7)})
		wantMet(t, tr, nil, 4)
		wantMet(t, tr, []api.Field{field(0, 0)}, 4)
		wantMet(t, tr, []api.Field{field(0, 1)}, 1, 4)
		wantMet(t, tr, []api.Field{field(0, 2)}, 2, 3, 4)
		wantMet(t, tr, []api.Field{field(0, 3)}, 0, 3, 4, 5)
		wantMet(t, tr, []api.Field{field(0, 4)}, 3, 4)
		wantMet(t, tr, []api.Field{field(2, 7)}, 4, 7)
		wantMet(t, tr, []api.Field{field(0, 2), field(1, 7), field(2, 7)}, 2, 3, 4, 6, 7)
	}
}

func TestBuildDoesNotKeepTheOrder(t *testing.T) {
	order := []int{1, 0, 2}
	tr := build(order, []api.Cond{is(1, 5)})
	clear(order)
	wantMet(t, tr, []api.Field{field(1, 5)}, 0)
}
