package trommel_test

import (
	"math"
	"slices"
	"testing"

	"trommel/api"
	"trommel/trommel"
)

func newEngine(t *testing.T, schema ...int) *trommel.Engine {
	t.Helper()
	e, no := trommel.New(schema)
	if e == nil || no != api.OK {
		t.Fatalf("New(%v) = %v, %d", schema, e, no)
	}
	return e
}

func subscribe(t *testing.T, e *trommel.Engine, id int, filter ...api.Cond) {
	t.Helper()
	wantSubscribe(t, e, id, filter, api.OK, 0)
}

func wantSubscribe(t *testing.T, e *trommel.Engine, id int, filter []api.Cond, want api.Errno, wantAt int) {
	t.Helper()
	if no, at := e.Subscribe(id, filter); no != want || at != wantAt {
		t.Fatalf("Subscribe(%d, %v) = %d, %d, want %d, %d", id, filter, no, at, want, wantAt)
	}
}

func wantUnsubscribe(t *testing.T, e *trommel.Engine, id int, want api.Errno) {
	t.Helper()
	if no := e.Unsubscribe(id); no != want {
		t.Fatalf("Unsubscribe(%d) = %d, want %d", id, no, want)
	}
}

// way is one of the calls that tell which filters an event meets.
type way struct {
	name string
	call func([]api.Field) ([]int, api.Errno, int)
}

func ways(e *trommel.Engine) []way {
	return []way{{"P6: Match", e.Match}, {"P7: ByTree", e.ByTree}, {"P7: ByCount", e.ByCount}}
}

func wantMatch(t *testing.T, e *trommel.Engine, event []api.Field, want ...int) {
	t.Helper()
	for _, w := range ways(e) {
		if ids, no, at := w.call(event); !slices.Equal(ids, want) || no != api.OK || at != 0 {
			t.Fatalf("%s(%v) = %v, %d, %d, want %v", w.name, event, ids, no, at, want)
		}
	}
}

func wantRefused(t *testing.T, e *trommel.Engine, event []api.Field, wantAt int) {
	t.Helper()
	for _, w := range ways(e) {
		if ids, no, at := w.call(event); len(ids) != 0 || no != api.ErrEvent || at != wantAt {
			t.Fatalf("%s(%v) = %v, %d, %d, want ErrEvent, %d", w.name, event, ids, no, at, wantAt)
		}
	}
}

func wantRebuild(t *testing.T, e *trommel.Engine, order []int, want api.Errno) {
	t.Helper()
	if no := e.Rebuild(order); no != want {
		t.Fatalf("P9: Rebuild(%v) = %d, want %d", order, no, want)
	}
}

func wantStats(t *testing.T, e *trommel.Engine, filters, nodes, events int) {
	t.Helper()
	want := api.Stats{Filters: filters, Nodes: nodes, Events: events}
	if got := e.Stats(); got != want {
		t.Fatalf("P10: Stats() = %+v, want %+v", got, want)
	}
}

func num(n int64) api.Value { return api.Value{N: n} }

func word(s string) api.Value { return api.Value{S: s} }

func cond(attr, kind int, a api.Value) api.Cond { return api.Cond{Attr: attr, Kind: kind, A: a} }

func between(attr int, a, b api.Value) api.Cond {
	return api.Cond{Attr: attr, Kind: api.Between, A: a, B: b}
}

func field(attr int, v api.Value) api.Field { return api.Field{Attr: attr, V: v} }

func event(fields ...api.Field) []api.Field { return fields }

// edgeNumbers are ints next to every bound that a call has for one.
func edgeNumbers() []int {
	return []int{math.MinInt, -1, 0, 1, 2, 3, 5, 6, 7, 8, 9, 10, 99, 100, 101, math.MaxInt}
}
