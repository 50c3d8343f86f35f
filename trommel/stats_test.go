package trommel_test

import (
	"testing"

	"trommel/api"
)

func TestStatsOfNoFilters(t *testing.T) {
	for n := 1; n <= api.MaxAttrs; n++ {
		e := newEngine(t, []int{1, 2, 1, 2, 1, 2}[:n]...)
		wantStats(t, e, 0, 1, 0)
		wantRebuild(t, e, orders(n)[0], api.OK)
		wantStats(t, e, 0, 1, 0)
	}
}

// Filters that differ in each attribute have no node in common but the root, and still no more than the bound.
func TestStatsBoundOfNodes(t *testing.T) {
	for n := 1; n <= api.MaxAttrs; n++ {
		e := newEngine(t, []int{1, 1, 1, 1, 1, 1}[:n]...)
		for id := range api.MaxFilters {
			var filter []api.Cond
			for attr := range n {
				filter = append(filter, cond(attr, api.Above, num(int64(id))), cond(attr, api.IsNot, num(0)))
			}
			subscribe(t, e, id, filter[:min(len(filter), api.MaxConds)]...)
			if s := e.Stats(); s.Filters != id+1 || s.Nodes < 1 || s.Nodes > 1+n*(id+1) || s.Events != 0 {
				t.Fatalf("P10: Stats() = %+v of %d filters on %d attributes", s, id+1, n)
			}
		}
		for id := range api.MaxFilters {
			wantUnsubscribe(t, e, id, api.OK)
			left := api.MaxFilters - id - 1
			if s := e.Stats(); s.Filters != left || s.Nodes < 1 || s.Nodes > 1+n*left || s.Events != 0 {
				t.Fatalf("P10: Stats() = %+v of %d filters on %d attributes", s, left, n)
			}
		}
		wantStats(t, e, 0, 1, 0)
	}
}

// Filters that ask the same go one way together, whatever the order of their conditions.
func TestStatsOfFiltersThatAskTheSame(t *testing.T) {
	e := newEngine(t, api.Number, api.Word)
	above, below, begins := cond(0, api.Above, num(1)), cond(0, api.Below, num(8)), cond(1, api.Begins, word("a"))
	subscribe(t, e, 1, above, below, begins)
	wantStats(t, e, 1, 3, 0)
	subscribe(t, e, 2, begins, below, above)
	subscribe(t, e, 3, below, below, begins, above, begins)
	wantStats(t, e, 3, 3, 0)
	subscribe(t, e, 4, above, begins)
	wantStats(t, e, 4, 5, 0)
	wantUnsubscribe(t, e, 1, api.OK)
	wantUnsubscribe(t, e, 2, api.OK)
	wantStats(t, e, 2, 5, 0)
	wantUnsubscribe(t, e, 3, api.OK)
	wantStats(t, e, 1, 3, 0)
}

func TestStatsCountsEvents(t *testing.T) {
	e := newEngine(t, api.Number)
	events := 0
	for round := range 3 {
		subscribe(t, e, round, cond(0, api.Is, num(int64(round))))
		for _, w := range ways(e) {
			for _, fields := range [][]api.Field{nil, event(field(0, num(1))), event(field(0, num(99)))} {
				w.call(fields)
				events++
				wantStats(t, e, round+1, round+2, events)
			}
			for _, fields := range [][]api.Field{event(field(1, num(1))), event(field(0, num(1)), field(0, num(1)))} {
				w.call(fields)
				wantStats(t, e, round+1, round+2, events)
			}
		}
	}
	wantUnsubscribe(t, e, 1, api.OK)
	wantRebuild(t, e, []int{0}, api.OK)
	wantStats(t, e, 2, 3, events)
}

func TestStatsStaysWhenCallsAreRefused(t *testing.T) {
	e := newEngine(t, api.Number)
	subscribe(t, e, 1, cond(0, api.Is, num(1)))
	wantSubscribe(t, e, 1, []api.Cond{cond(0, api.Is, num(2))}, api.ErrTwice, 0)
	wantSubscribe(t, e, -1, []api.Cond{cond(0, api.Is, num(2))}, api.ErrId, 0)
	wantSubscribe(t, e, 2, []api.Cond{cond(0, api.Is, num(2)), cond(1, api.Is, num(2))}, api.ErrCond, 1)
	wantSubscribe(t, e, 2, make([]api.Cond, 9), api.ErrMany, 0)
	wantUnsubscribe(t, e, 2, api.ErrNone)
	wantStats(t, e, 1, 2, 0)
}
