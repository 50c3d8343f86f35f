package trommel_test

import (
	"math"
	"slices"
	"testing"

	"trommel/api"
	"trommel/trommel"
)

// orders gives every order of n attributes.
func orders(n int) [][]int {
	if n == 0 {
		return [][]int{nil}
	}
	var all [][]int
	for _, shorter := range orders(n - 1) {
		for place := range n {
			all = append(all, slices.Insert(slices.Clone(shorter), place, n-1))
		}
	}
	return all
}

func TestRebuildRefusesOrders(t *testing.T) {
	e := newEngine(t, api.Number, api.Word, api.Word)
	for _, order := range [][]int{
		nil,
		{},
		{0},
		{0, 1},
		{2, 1},
		{0, 1, 1},
		{0, 0, 0},
		{2, 1, 2},
		{0, 1, 3},
		{3, 2, 1},
		{-1, 0, 1},
		{0, 1, -1},
		{0, 1, math.MaxInt},
		{math.MinInt, 1, 2},
		{0, 1, 2, 3},
		{0, 1, 2, 0},
		{0, 1, 2, 2, 1, 0},
		make([]int, 1_000_000),
	} {
		wantRebuild(t, e, order, api.ErrOrder)
	}
	wantRebuild(t, newEngine(t, api.Number), []int{1}, api.ErrOrder)
	wantRebuild(t, newEngine(t, 1, 1, 1, 1, 1, 1), []int{0, 1, 2, 3, 4, 5, 6}, api.ErrOrder)
}

func TestRebuildTakesEachOrder(t *testing.T) {
	schema := []int{api.Number, api.Word, api.Word, api.Number, api.Number, api.Word}
	for n := 1; n <= len(schema); n++ {
		e := newEngine(t, schema[:n]...)
		for _, order := range orders(n) {
			wantRebuild(t, e, order, api.OK)
		}
	}
}

// subscribeMixed subscribes to filters on few and on many attributes of the schema Number, Word, Number, Word.
func subscribeMixed(t *testing.T, e *trommel.Engine) {
	t.Helper()
	subscribe(t, e, 0)
	subscribe(t, e, 1, cond(0, api.Is, num(1)))
	subscribe(t, e, 2, cond(0, api.Is, num(1)), cond(3, api.Begins, word("a")))
	subscribe(t, e, 3, cond(1, api.Is, word("x")), cond(2, api.Above, num(4)))
	subscribe(t, e, 4, cond(0, api.Is, num(2)), cond(1, api.Is, word("x")))
	subscribe(t, e, 5, cond(2, api.Above, num(4)), cond(2, api.IsNot, num(6)))
	subscribe(t, e, 6, cond(3, api.Has, api.Value{}))
}

func TestRebuildChangesNoAnswer(t *testing.T) {
	e := newEngine(t, api.Number, api.Word, api.Number, api.Word)
	subscribeMixed(t, e)
	events := 0
	for _, order := range orders(4) {
		wantRebuild(t, e, order, api.OK)
		wantMatch(t, e, nil, 0)
		wantMatch(t, e, event(field(0, num(1))), 0, 1)
		wantMatch(t, e, event(field(3, word("ab")), field(0, num(1))), 0, 1, 2, 6)
		wantMatch(t, e, event(field(2, num(5)), field(1, word("x"))), 0, 3, 5)
		wantMatch(t, e, event(field(0, num(2)), field(1, word("x")), field(2, num(6)), field(3, word("b"))), 0, 3, 4, 6)
		wantRefused(t, e, event(field(0, num(2)), field(0, num(2))), 1)
		wantSubscribe(t, e, 6, nil, api.ErrTwice, 0)
		wantUnsubscribe(t, e, 7, api.ErrNone)
		events += 5 * len(ways(e))
		if s := e.Stats(); s.Filters != 7 || s.Events != events {
			t.Fatalf("P9: Stats() = %+v after Rebuild(%v), want 7 filters, %d events", s, order, events)
		}
	}
}

// With the attribute in which filters differ asked for last, they share the nodes ahead of it.
func TestRebuildLaysTheLevels(t *testing.T) {
	e := newEngine(t, api.Number, api.Word, api.Number)
	for id := range 10 {
		subscribe(t, e, id, cond(0, api.Is, num(int64(id))), cond(1, api.Is, word("x")), cond(2, api.Below, num(9)))
	}
	nodes := map[int]int{0: 31, 1: 22, 2: 13} // by the level that asks for attribute 0
	wantStats(t, e, 10, nodes[0], 0)
	for _, order := range orders(3) {
		wantRebuild(t, e, order, api.OK)
		wantStats(t, e, 10, nodes[slices.Index(order, 0)], 0)
	}
}

func TestRebuildHoldsForFiltersThatCome(t *testing.T) {
	e := newEngine(t, api.Number, api.Word)
	wantRebuild(t, e, []int{1, 0}, api.OK)
	for id := range 10 {
		subscribe(t, e, id, cond(0, api.Is, num(int64(id))), cond(1, api.Is, word("x")))
	}
	wantStats(t, e, 10, 12, 0)
	wantUnsubscribe(t, e, 4, api.OK)
	wantStats(t, e, 9, 11, 0)
}

func TestRebuildThatIsRefusedChangesNothing(t *testing.T) {
	e := newEngine(t, api.Number, api.Word)
	for id := range 10 {
		subscribe(t, e, id, cond(0, api.Is, num(int64(id))), cond(1, api.Is, word("x")))
	}
	wantStats(t, e, 10, 21, 0)
	for _, order := range [][]int{nil, {1}, {1, 1}, {1, 2}, {1, 0, 0}, {1, 0, 2}} {
		wantRebuild(t, e, order, api.ErrOrder)
		wantStats(t, e, 10, 21, 0)
	}
	wantRebuild(t, e, []int{1, 0}, api.OK)
	wantRebuild(t, e, []int{0, 0}, api.ErrOrder)
	wantStats(t, e, 10, 12, 0)
	wantMatch(t, e, event(field(0, num(3)), field(1, word("x"))), 3)
}
