package trommel_test

import (
	"math"
	"strings"
	"testing"

	"trommel/api"
	"trommel/trommel"
)

func TestExamples(t *testing.T) {
	e := newEngine(t, api.Number, api.Word)
	subscribe(t, e, 7, cond(0, api.AtLeast, num(5)), cond(1, api.Begins, word("ab")))
	subscribe(t, e, 3)
	subscribe(t, e, 9, cond(0, api.IsNot, num(5)))
	wantMatch(t, e, event(field(0, num(5)), field(1, word("abc"))), 3, 7)
	wantMatch(t, e, event(field(1, word("abc"))), 3)
	wantMatch(t, e, event(field(0, num(6))), 3, 9)
	wantRefused(t, e, event(field(0, num(6)), field(0, num(7))), 1)

	wantSubscribe(t, e, 7, nil, api.ErrTwice, 0)
	wantSubscribe(t, e, 8, []api.Cond{cond(0, api.Begins, word(""))}, api.ErrCond, 0)
	wrong := []api.Cond{cond(1, api.Has, api.Value{}), cond(1, api.Is, num(1))}
	wantSubscribe(t, e, 8, wrong, api.ErrCond, 1)

	wantRebuild(t, e, []int{1, 0}, api.OK)
	for _, order := range [][]int{{0, 0}, {1}, {0, 1, 2}} {
		wantRebuild(t, e, order, api.ErrOrder)
	}
	for _, id := range []int{9, 7, 3} {
		wantUnsubscribe(t, e, id, api.OK)
	}
	wantStats(t, e, 0, 1, 9)

	e = newEngine(t, api.Number)
	subscribe(t, e, 1, between(0, num(9), num(5)))
	subscribe(t, e, 2, cond(0, api.Is, num(1)), cond(0, api.Is, num(2)))
	for n := range int64(12) {
		wantMatch(t, e, event(field(0, num(n))))
	}
}

// subscribeKinds subscribes to each kind that compares, under its own number; 7 is from a to b, and 70 from b to a.
func subscribeKinds(t *testing.T, e *trommel.Engine, a, b api.Value) {
	t.Helper()
	for kind := api.Is; kind <= api.AtLeast; kind++ {
		subscribe(t, e, kind, cond(0, kind, b))
	}
	subscribe(t, e, api.Between, between(0, a, b))
	subscribe(t, e, 70, between(0, b, a))
	subscribe(t, e, api.Has, cond(0, api.Has, api.Value{}))
}

func TestMatchNumbers(t *testing.T) {
	e := newEngine(t, api.Number)
	subscribeKinds(t, e, num(-3), num(5))
	for _, n := range []int64{math.MinInt64, math.MinInt64 + 1, -4} {
		wantMatch(t, e, event(field(0, num(n))), 2, 3, 4, 9)
	}
	for _, n := range []int64{-3, -2, 0, 4} {
		wantMatch(t, e, event(field(0, num(n))), 2, 3, 4, 7, 9)
	}
	wantMatch(t, e, event(field(0, num(5))), 1, 4, 6, 7, 9)
	for _, n := range []int64{6, 10, 1 << 32, math.MaxInt64} {
		wantMatch(t, e, event(field(0, num(n))), 2, 5, 6, 9)
	}
	wantMatch(t, e, nil)
}

func TestMatchNumbersFarApart(t *testing.T) {
	e := newEngine(t, api.Number)
	subscribe(t, e, 1, cond(0, api.Below, num(math.MaxInt64)))
	subscribe(t, e, 2, cond(0, api.Above, num(math.MinInt64)))
	subscribe(t, e, 3, cond(0, api.Below, num(math.MinInt64)))
	subscribe(t, e, 4, cond(0, api.Above, num(math.MaxInt64)))
	subscribe(t, e, 5, between(0, num(math.MinInt64), num(math.MaxInt64)))
	wantMatch(t, e, event(field(0, num(math.MinInt64))), 1, 5)
	wantMatch(t, e, event(field(0, num(math.MaxInt64))), 2, 5)
	wantMatch(t, e, event(field(0, num(0))), 1, 2, 5)
}

func TestMatchWords(t *testing.T) {
	e := newEngine(t, api.Word)
	subscribeKinds(t, e, word("ab"), word("b\x80"))
	subscribe(t, e, api.Begins, cond(0, api.Begins, word("b\x80")))
	subscribe(t, e, 80, cond(0, api.Begins, word("")))
	for _, s := range []string{"", "a", "aa", "aa\xff", "Z", "B", "10", "\x00"} {
		wantMatch(t, e, event(field(0, word(s))), 2, 3, 4, 9, 80)
	}
	for _, s := range []string{"ab", "ab\x00", "abc", "az", "a\xff", "b", "b\x7f\xff"} {
		wantMatch(t, e, event(field(0, word(s))), 2, 3, 4, 7, 9, 80)
	}
	wantMatch(t, e, event(field(0, word("b\x80"))), 1, 4, 6, 7, 8, 9, 80)
	for _, s := range []string{"b\x80\x00", "b\x80b\x80", "b\x80" + strings.Repeat("x", 18)} {
		wantMatch(t, e, event(field(0, word(s))), 2, 5, 6, 8, 9, 80)
	}
	for _, s := range []string{"b\x81", "b\xff", "c", "é", "\xff", strings.Repeat("\xff", 20)} {
		wantMatch(t, e, event(field(0, word(s))), 2, 5, 6, 9, 80)
	}
	wantMatch(t, e, nil)
}

// No kind is met by an event that has no value of the attribute.
func TestMatchWithoutTheAttribute(t *testing.T) {
	e := newEngine(t, api.Number, api.Word)
	for id, c := range goodConds() {
		subscribe(t, e, id, c)
	}
	wantMatch(t, e, nil)
	wantMatch(t, e, event())

	e = newEngine(t, api.Number, api.Number)
	subscribeKinds(t, e, num(0), num(0))
	wantMatch(t, e, event(field(1, num(0))))
	wantMatch(t, e, event(field(0, num(0))), 1, 4, 6, 7, 9, 70)
}

func TestMatchNeedsEachCondition(t *testing.T) {
	e := newEngine(t, api.Number, api.Number, api.Word, api.Word, api.Number, api.Word)
	filter := []api.Cond{
		cond(0, api.Above, num(1)), cond(0, api.Below, num(4)), cond(0, api.IsNot, num(3)),
		cond(1, api.Is, num(7)), cond(2, api.Begins, word("x")), cond(3, api.AtMost, word("m")),
		cond(4, api.AtLeast, num(-2)), cond(5, api.Has, api.Value{}),
	}
	subscribe(t, e, 1, filter...)
	met := event(field(5, word("")), field(4, num(-2)), field(3, word("m")),
		field(2, word("xy")), field(1, num(7)), field(0, num(2)))
	wantMatch(t, e, met, 1)
	for i := range met {
		less := append(append(event(), met[:i]...), met[i+1:]...)
		wantMatch(t, e, less)
	}
	for i, v := range []api.Value{num(-3), word("ma"), word("y"), num(8), num(3)} {
		other := append(event(), met...)
		other[i+1].V = v
		wantMatch(t, e, other)
	}
}

func TestMatchAnswersRising(t *testing.T) {
	e := newEngine(t, api.Number)
	for _, id := range []int{5, 1, math.MaxInt, 3, 0, 4, 1000, 2} {
		subscribe(t, e, id)
	}
	wantMatch(t, e, nil, 0, 1, 2, 3, 4, 5, 1000, math.MaxInt)
	wantMatch(t, e, event(field(0, num(8))), 0, 1, 2, 3, 4, 5, 1000, math.MaxInt)
}

func TestMatchRefusesFields(t *testing.T) {
	e := newEngine(t, api.Number, api.Word, api.Word)
	subscribe(t, e, 1)
	good := event(field(1, word("a")), field(0, num(1)))
	for _, bad := range event(
		field(-1, num(1)),
		field(3, api.Value{}),
		field(math.MinInt, api.Value{}),
		field(math.MaxInt, api.Value{}),
		field(0, num(1)),
		field(1, word("b")),
		field(2, num(1)),
		field(2, api.Value{N: -1, S: "a"}),
		field(2, word(strings.Repeat("a", 21))),
		field(2, word(strings.Repeat("a", 1<<20))),
	) {
		wantRefused(t, e, event(good[0], good[1], bad), 2)
		wantRefused(t, e, event(good[0], good[1], bad, bad, field(9, num(1))), 2)
		wantMatch(t, e, good, 1)
	}
	wantRefused(t, e, event(field(0, word("a"))), 0)
	wantRefused(t, e, event(field(0, api.Value{N: 1, S: "a"})), 0)
	wantRefused(t, e, event(field(1, num(1)), field(0, word("a"))), 0)
	wantRefused(t, e, make([]api.Field, 1_000_000), 1)
	wantMatch(t, e, event(field(2, word(strings.Repeat("\xff", 20)))), 1)
}
