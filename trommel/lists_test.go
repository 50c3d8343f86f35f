package trommel_test

import (
	"bytes"
	"runtime"
	"slices"
	"sync"
	"testing"

	"trommel/api"
	"trommel/trommel"
)

// withRoom copies a list into memory with spare room that is filled with junk.
func withRoom[T any](l []T, junk T) []T {
	whole := append(slices.Clone(l), junk, junk, junk)
	return whole[:len(l)]
}

// wantWhole looks at a list of withRoom, and at its spare room.
func wantWhole[T comparable](t *testing.T, what string, got, want []T, junk T) {
	t.Helper()
	if !slices.Equal(got[:len(got)+3], append(slices.Clone(want), junk, junk, junk)) {
		t.Fatalf("P2: %s was written into: %v", what, got[:len(got)+3])
	}
}

// spoil writes over a list, and over its spare room.
func spoil[T any](l []T, junk T) {
	l = l[:cap(l)]
	for i := range l {
		l[i] = junk
	}
}

func TestListsHandedInAreLeftAlone(t *testing.T) {
	junkCond, junkField := cond(77, 77, num(77)), field(77, num(77))
	types := []int{api.Number, api.Word}
	schema := withRoom(types, 77)
	e, no := trommel.New(schema)
	if no != api.OK {
		t.Fatal(no)
	}
	wantWhole(t, "the schema", schema, types, 77)

	conds := []api.Cond{cond(1, api.Begins, word("a")), cond(0, api.IsNot, num(1))}
	filter := withRoom(conds, junkCond)
	subscribe(t, e, 5, filter...)
	wantWhole(t, "a filter", filter, conds, junkCond)
	wantSubscribe(t, e, 5, filter, api.ErrTwice, 0)
	wantWhole(t, "a filter that is refused", filter, conds, junkCond)

	for _, fields := range [][]api.Field{
		event(field(1, word("ab")), field(0, num(2))),
		event(field(1, word("ab")), field(1, word("b"))),
	} {
		for _, w := range ways(e) {
			l := withRoom(fields, junkField)
			w.call(l)
			wantWhole(t, "an event", l, fields, junkField)
		}
	}

	for _, attrs := range [][]int{{1, 0}, {1, 1}, {1, 0, 1}} {
		order := withRoom(attrs, 77)
		e.Rebuild(order)
		e.Stats()
		wantWhole(t, "an order", order, attrs, 77)
	}
}

func TestListsHandedInAreNotKept(t *testing.T) {
	schema := []int{api.Number, api.Word}
	e, _ := trommel.New(schema)
	spoil(schema, api.Word)
	filter := []api.Cond{cond(0, api.Is, num(1)), cond(1, api.Is, word("a"))}
	subscribe(t, e, 5, filter...)
	spoil(filter, api.Cond{Attr: 77})
	fields := event(field(0, num(1)), field(1, word("a")))
	wantMatch(t, e, fields, 5)
	spoil(fields, api.Field{Attr: 77})
	wantMatch(t, e, event(field(1, word("a")), field(0, num(1))), 5)
	wantMatch(t, e, event(field(0, num(2)), field(1, word("a"))))
	wantRefused(t, e, event(field(0, word("a"))), 0)

	order := []int{1, 0}
	wantRebuild(t, e, order, api.OK)
	spoil(order, 77)
	wantMatch(t, e, event(field(1, word("a")), field(0, num(1))), 5)
	wantMatch(t, e, event(field(0, num(2)), field(1, word("a"))))
	wantStats(t, e, 1, 3, 15)
}

func TestListsThatComeOutAreNew(t *testing.T) {
	e := newEngine(t, api.Number)
	subscribe(t, e, 100)
	for id := range 9 {
		subscribe(t, e, id, cond(0, api.AtLeast, num(int64(id))))
	}
	for _, w := range ways(e) {
		five, _, _ := w.call(event(field(0, num(3))))
		four, _, _ := w.call(event(field(0, num(2))))
		again, _, _ := w.call(event(field(0, num(3))))
		one, _, _ := w.call(nil)
		spoil(five, 77)
		if !slices.Equal(four, []int{0, 1, 2, 100}) || !slices.Equal(again, []int{0, 1, 2, 3, 100}) {
			t.Fatalf("P2: %s: other answers changed: %v, %v", w.name, four, again)
		}
		spoil(again, 78)
		spoil(one, 79)
		wantMatch(t, e, nil, 100)
		wantMatch(t, e, event(field(0, num(3))), 0, 1, 2, 3, 100)
		wantMatch(t, e, event(field(0, num(8))), 0, 1, 2, 3, 4, 5, 6, 7, 8, 100)
	}
	wantUnsubscribe(t, e, 77, api.ErrNone)
}

func TestAnswersStayWhenFiltersGo(t *testing.T) {
	for i := range ways(nil) {
		e := newEngine(t, api.Number)
		for id := range 5 {
			subscribe(t, e, id)
		}
		w := ways(e)[i]
		all, _, _ := w.call(nil)
		wantUnsubscribe(t, e, 0, api.OK)
		subscribe(t, e, 9)
		wantRebuild(t, e, []int{0}, api.OK)
		wantMatch(t, e, nil, 1, 2, 3, 4, 9)
		if !slices.Equal(all, []int{0, 1, 2, 3, 4}) {
			t.Fatalf("P2: %s: an answer changed: %v", w.name, all)
		}
	}
}

func TestEnginesDoNotDisturbOneAnother(t *testing.T) {
	schema := []int{api.Number, api.Word}
	one, _ := trommel.New(schema)
	other, _ := trommel.New(schema)
	filter := []api.Cond{cond(0, api.Is, num(1))}
	subscribe(t, one, 1, filter...)
	wantMatch(t, other, event(field(0, num(1))))
	wantUnsubscribe(t, other, 1, api.ErrNone)
	subscribe(t, other, 1, filter...)
	wantUnsubscribe(t, one, 1, api.OK)
	wantMatch(t, one, event(field(0, num(1))))
	wantMatch(t, other, event(field(0, num(1))), 1)
	wantRebuild(t, one, []int{1, 0}, api.OK)
	wantStats(t, one, 0, 1, 3)
	wantStats(t, other, 1, 2, 6)
}

func TestEnginesSideBySide(t *testing.T) {
	filter := []api.Cond{cond(0, api.AtLeast, num(3)), cond(0, api.Below, num(6))}
	fields := event(field(0, num(4)))
	answers := make([][]int, 8)
	var done sync.WaitGroup
	for i := range answers {
		done.Add(1)
		go func() {
			defer done.Done()
			e, _ := trommel.New([]int{api.Number})
			for id := range api.MaxFilters {
				e.Subscribe(i+id, filter)
			}
			e.Unsubscribe(i + 1)
			answers[i], _, _ = e.Match(fields)
		}()
	}
	done.Wait()
	for i, ids := range answers {
		want := []int{i}
		for id := 2; id < api.MaxFilters; id++ {
			want = append(want, i+id)
		}
		if !slices.Equal(ids, want) {
			t.Errorf("P2: engine %d: %v", i, ids)
		}
	}
}

// goroutines counts those that there are. (runtime.NumGoroutine counts wrongly while garbage is collected.)
func goroutines() int {
	stacks := make([]byte, 1<<20)
	stacks = stacks[:runtime.Stack(stacks, true)]
	return bytes.Count(stacks, []byte("\n\ngoroutine ")) + 1
}

func TestNoGoroutineIsLeft(t *testing.T) {
	ahead := goroutines()
	e := newEngine(t, api.Number)
	for id := range api.MaxFilters {
		subscribe(t, e, id, cond(0, api.Has, api.Value{}))
		for _, w := range ways(e) {
			w.call(event(field(0, num(1))))
		}
		e.Stats()
		if now := goroutines(); now > ahead {
			t.Fatalf("P2: %d goroutines more", now-ahead)
		}
	}
	e.Unsubscribe(1)
	e.Rebuild([]int{0})
	if now := goroutines(); now > ahead {
		t.Fatalf("P2: %d goroutines more", now-ahead)
	}
}
