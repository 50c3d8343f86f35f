package trommel_test

import (
	"math"
	"strings"
	"testing"

	"trommel/api"
)

// badConds may not be in an engine of the schema Number, Word.
func badConds() []api.Cond {
	return []api.Cond{
		{},
		cond(-1, api.Is, num(1)),
		cond(2, api.Is, num(1)),
		cond(2, api.Has, api.Value{}),
		cond(math.MinInt, api.Has, api.Value{}),
		cond(math.MaxInt, api.Has, api.Value{}),
		cond(0, 0, num(1)),
		cond(0, 10, num(1)),
		cond(0, -1, num(1)),
		cond(0, math.MaxInt, num(1)),
		cond(1, math.MinInt, word("a")),
		cond(0, api.Is, word("a")),
		cond(0, api.IsNot, api.Value{N: 1, S: "a"}),
		cond(1, api.Is, num(1)),
		cond(1, api.AtLeast, api.Value{N: 1, S: "a"}),
		cond(1, api.Is, word(strings.Repeat("a", 21))),
		cond(1, api.Begins, word(strings.Repeat("\x00", 21))),
		cond(1, api.Begins, word(strings.Repeat("a", 1<<20))),
		cond(1, api.Begins, num(1)),
		cond(0, api.Begins, api.Value{}),
		cond(0, api.Begins, num(1)),
		cond(0, api.Has, num(1)),
		cond(0, api.Has, word("a")),
		cond(1, api.Has, word("a")),
		cond(1, api.Has, num(1)),
		between(0, word("a"), num(1)),
		between(0, num(1), word("a")),
		between(1, num(1), word("a")),
		between(1, word("a"), num(1)),
		between(1, word("a"), word(strings.Repeat("a", 21))),
		between(1, word(strings.Repeat("a", 21)), word("a")),
		{Attr: 0, Kind: api.Is, B: num(1)},
		{Attr: 0, Kind: api.Is, B: word("a")},
		{Attr: 0, Kind: api.IsNot, B: num(1)},
		{Attr: 0, Kind: api.Below, B: num(1)},
		{Attr: 0, Kind: api.AtMost, B: num(1)},
		{Attr: 0, Kind: api.Above, B: num(1)},
		{Attr: 1, Kind: api.AtLeast, B: word("a")},
		{Attr: 1, Kind: api.Begins, B: word("a")},
		{Attr: 1, Kind: api.Begins, B: num(1)},
		{Attr: 1, Kind: api.Has, B: word("a")},
		{Attr: 0, Kind: api.Has, B: num(1)},
	}
}

// goodConds may be in an engine of the schema Number, Word.
func goodConds() []api.Cond {
	long := word(strings.Repeat("\xff", 20))
	l := []api.Cond{
		between(0, num(9), num(5)),
		between(0, num(math.MinInt64), num(math.MaxInt64)),
		between(1, word(""), long),
		between(1, long, word("")),
		cond(1, api.Begins, word("")),
		cond(1, api.Begins, long),
		cond(0, api.Has, api.Value{}),
		cond(1, api.Has, api.Value{}),
	}
	for kind := api.Is; kind <= api.AtLeast; kind++ {
		l = append(l, cond(0, kind, num(math.MinInt64)), cond(0, kind, num(math.MaxInt64)))
		l = append(l, cond(1, kind, word("")), cond(1, kind, long))
	}
	return l
}

func TestSubscribeRefusesConditions(t *testing.T) {
	has := cond(0, api.Has, api.Value{})
	for _, c := range badConds() {
		e := newEngine(t, api.Number, api.Word)
		wantSubscribe(t, e, 0, []api.Cond{c}, api.ErrCond, 0)
		wantSubscribe(t, e, 0, []api.Cond{has, has, c, has, c}, api.ErrCond, 2)
		wantSubscribe(t, e, 0, []api.Cond{has, has, has, has, has, has, has, c}, api.ErrCond, 7)
		wantUnsubscribe(t, e, 0, api.ErrNone)
	}
}

func TestSubscribeTakesConditions(t *testing.T) {
	e := newEngine(t, api.Number, api.Word)
	for id, c := range goodConds() {
		subscribe(t, e, id, c)
		wantSubscribe(t, e, id, nil, api.ErrTwice, 0)
	}
}

func TestSubscribeBoundOfConditions(t *testing.T) {
	e := newEngine(t, api.Number)
	has := cond(0, api.Has, api.Value{})
	eight := []api.Cond{has, has, has, has, has, has, has, has}
	subscribe(t, e, 0, eight...)
	wantSubscribe(t, e, 1, append(eight, has), api.ErrMany, 0)
	wantSubscribe(t, e, 1, make([]api.Cond, 1_000_000), api.ErrMany, 0)
	wantMatch(t, e, event(field(0, num(1))), 0)
}

func TestSubscribeNumbers(t *testing.T) {
	e := newEngine(t, api.Number)
	wantSubscribe(t, e, -1, nil, api.ErrId, 0)
	wantSubscribe(t, e, math.MinInt, nil, api.ErrId, 0)
	subscribe(t, e, math.MaxInt)
	subscribe(t, e, 0)
	wantSubscribe(t, e, 0, nil, api.ErrTwice, 0)
	wantSubscribe(t, e, math.MaxInt, []api.Cond{cond(0, api.Is, num(1))}, api.ErrTwice, 0)
	wantMatch(t, e, nil, 0, math.MaxInt)
}

func TestSubscribeBoundOfFilters(t *testing.T) {
	e := newEngine(t, api.Number)
	var all []int
	for i := range api.MaxFilters {
		subscribe(t, e, 2*i)
		all = append(all, 2*i)
	}
	wantSubscribe(t, e, 1, nil, api.ErrFull, 0)
	wantSubscribe(t, e, 1000, nil, api.ErrFull, 0)
	wantMatch(t, e, nil, all...)
}

func TestSubscribeAgainWhenOneIsGone(t *testing.T) {
	e := newEngine(t, api.Number)
	for id := range api.MaxFilters {
		subscribe(t, e, id)
	}
	wantSubscribe(t, e, 100, nil, api.ErrFull, 0)
	wantUnsubscribe(t, e, 50, api.OK)
	subscribe(t, e, 100)
	wantSubscribe(t, e, 50, nil, api.ErrFull, 0)
	wantUnsubscribe(t, e, 100, api.OK)
	subscribe(t, e, 50)
}

// Of the errors that apply, the one that P4 names first is the answer.
func TestSubscribeOrderOfErrors(t *testing.T) {
	e := newEngine(t, api.Number)
	for id := range api.MaxFilters {
		subscribe(t, e, id)
	}
	bad := []api.Cond{cond(0, api.Has, api.Value{}), {}}
	wantSubscribe(t, e, -1, make([]api.Cond, 9), api.ErrId, 0)
	wantSubscribe(t, e, -1, bad, api.ErrId, 0)
	wantSubscribe(t, e, 5, make([]api.Cond, 9), api.ErrTwice, 0)
	wantSubscribe(t, e, 5, bad, api.ErrTwice, 0)
	wantSubscribe(t, e, 5, nil, api.ErrTwice, 0)
	wantSubscribe(t, e, 200, make([]api.Cond, 9), api.ErrMany, 0)
	wantSubscribe(t, e, 200, bad, api.ErrCond, 1)
	wantSubscribe(t, e, 200, nil, api.ErrFull, 0)
}

func TestSubscribeThatIsRefusedChangesNothing(t *testing.T) {
	e := newEngine(t, api.Number, api.Word)
	subscribe(t, e, 4, cond(0, api.Is, num(1)))
	wantSubscribe(t, e, 4, nil, api.ErrTwice, 0)
	wantSubscribe(t, e, -4, nil, api.ErrId, 0)
	wantSubscribe(t, e, 5, make([]api.Cond, 9), api.ErrMany, 0)
	for _, c := range badConds() {
		wantSubscribe(t, e, 6, []api.Cond{c}, api.ErrCond, 0)
	}
	wantMatch(t, e, event(field(0, num(1))), 4)
	wantMatch(t, e, event(field(0, num(2)), field(1, word("a"))))
	wantMatch(t, e, nil)
	for _, id := range []int{-4, 5, 6} {
		wantUnsubscribe(t, e, id, api.ErrNone)
	}
}
