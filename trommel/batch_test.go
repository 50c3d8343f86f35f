package trommel_test

import (
	"math"
	"runtime"
	"slices"
	"strings"
	"testing"
	"time"

	"trommel/api"
	"trommel/trommel"
)

func wantBatch(t *testing.T, e *trommel.Engine, events [][]api.Field, want ...[]int) {
	t.Helper()
	if got, no, at := e.Batch(events); !slices.EqualFunc(got, want, slices.Equal) || no != api.OK || at != 0 {
		t.Fatalf("P8: Batch(%v) = %v, %d, %d, want %v", events, got, no, at, want)
	}
}

func wantBatchRefused(t *testing.T, e *trommel.Engine, events [][]api.Field, want api.Errno, wantAt int) {
	t.Helper()
	if got, no, at := e.Batch(events); len(got) != 0 || no != want || at != wantAt {
		t.Fatalf("P8: Batch of %d events = %v, %d, %d, want %d, %d", len(events), got, no, at, want, wantAt)
	}
}

// wantAsMatch holds a batch against Match of each of its events.
func wantAsMatch(t *testing.T, e *trommel.Engine, events [][]api.Field) {
	t.Helper()
	var want [][]int
	for _, fields := range events {
		ids, no, at := e.Match(fields)
		if no != api.OK || at != 0 {
			t.Fatalf("P6: Match(%v) = %v, %d, %d", fields, ids, no, at)
		}
		want = append(want, ids)
	}
	wantBatch(t, e, events, want...)
}

// steps is an engine on a number and a word; of a number from 0 to 98 and a word with "a" ahead the filters up to the number are met, and 99 of any event.
func steps(t *testing.T) *trommel.Engine {
	t.Helper()
	e := newEngine(t, api.Number, api.Word)
	for id := range 99 {
		subscribe(t, e, id, cond(0, api.AtLeast, num(int64(id))), cond(1, api.Begins, word("a")))
	}
	subscribe(t, e, 99)
	return e
}

// upTo gives the numbers from 0 to n, and 99.
func upTo(n int) []int {
	var l []int
	for id := range n + 1 {
		l = append(l, id)
	}
	return append(l, 99)
}

// stepEvents gives events of steps that all meet different filters, and what each of them meets.
func stepEvents(n int) ([][]api.Field, [][]int) {
	var events [][]api.Field
	var ids [][]int
	for i := range n {
		// Neither rising nor falling, so that an answer at a wrong place is seen.
		x := i * 37 % 97
		events = append(events, event(field(1, word("ab")), field(0, num(int64(x)))))
		ids = append(ids, upTo(x))
	}
	return events, ids
}

func TestBatchExample(t *testing.T) {
	e := newEngine(t, api.Number, api.Word)
	subscribe(t, e, 7, cond(0, api.AtLeast, num(5)), cond(1, api.Begins, word("ab")))
	subscribe(t, e, 3)
	subscribe(t, e, 9, cond(0, api.IsNot, num(5)))
	events := [][]api.Field{
		event(field(0, num(5)), field(1, word("abc"))),
		event(field(1, word("abc"))),
		nil,
		event(field(0, num(6))),
		event(field(1, word("abc")), field(0, num(6))),
	}
	wantBatch(t, e, events, []int{3, 7}, []int{3}, []int{3}, []int{3, 9}, []int{3, 7, 9})
	wantUnsubscribe(t, e, 3, api.OK)
	wantBatch(t, e, events, []int{7}, nil, nil, []int{9}, []int{7, 9})
	wantAsMatch(t, e, events)
	wantStats(t, e, 2, 4, 20)
}

func TestBatchSizes(t *testing.T) {
	e := steps(t)
	counted := 0
	for n := range api.MaxBatch + 1 {
		events, ids := stepEvents(n)
		wantBatch(t, e, events, ids...)
		counted += n
		if s := e.Stats(); s.Events != counted {
			t.Fatalf("P10: %d events behind a batch of %d, want %d", s.Events, n, counted)
		}
	}
	wantBatch(t, e, nil)
	wantBatch(t, e, [][]api.Field{})
}

func TestBatchOfTooMany(t *testing.T) {
	e := steps(t)
	for _, n := range []int{51, 52, 100, 100_000} {
		events := make([][]api.Field, n)
		wantBatchRefused(t, e, events, api.ErrMany, 0)
		events[3] = event(field(2, num(1)))
		wantBatchRefused(t, e, events, api.ErrMany, 0)
	}
	if s := e.Stats(); s.Events != 0 {
		t.Fatalf("P10: %d events were counted", s.Events)
	}
}

// wrongEvents are events that an engine of steps refuses, for each of the reasons that there are.
func wrongEvents() [][]api.Field {
	one := event(field(0, num(1)))
	return [][]api.Field{
		append(one, field(0, num(1))),
		event(field(-1, num(1))),
		append(one, field(2, num(1))),
		event(field(math.MinInt, num(1))),
		event(field(math.MaxInt, num(1))),
		append(one, field(1, num(1))),
		append(one, field(1, word(strings.Repeat("a", 21)))),
		event(field(0, word("a"))),
		append(one, field(1, word("a")), field(1, word("a"))),
	}
}

func TestBatchPlaceOfAWrongEvent(t *testing.T) {
	e := steps(t)
	for place := range api.MaxBatch {
		for _, wrong := range wrongEvents() {
			events, _ := stepEvents(api.MaxBatch)
			events[place] = wrong
			wantBatchRefused(t, e, events, api.ErrEvent, place)
			wantBatchRefused(t, e, events[:place+1], api.ErrEvent, place)
			for behind := place + 1; behind < len(events); behind += 5 {
				events[behind] = wrong
			}
			wantBatchRefused(t, e, events, api.ErrEvent, place)
		}
	}
	if s := e.Stats(); s.Events != 0 {
		t.Fatalf("P10: %d events were counted", s.Events)
	}
	events, ids := stepEvents(api.MaxBatch)
	wantBatch(t, e, events, ids...)
}

func TestBatchOfWrongEventsAlone(t *testing.T) {
	e := steps(t)
	wantBatchRefused(t, e, wrongEvents(), api.ErrEvent, 0)
	wantBatchRefused(t, e, append([][]api.Field{nil, nil}, wrongEvents()...), api.ErrEvent, 2)
	if s := e.Stats(); s.Events != 0 {
		t.Fatalf("P10: %d events were counted", s.Events)
	}
}

// An attribute that came in one event of a batch may come in the next.
func TestBatchEventsAreApart(t *testing.T) {
	e := newEngine(t, api.Number, api.Word)
	subscribe(t, e, 1, cond(0, api.Has, api.Value{}))
	subscribe(t, e, 2, cond(1, api.Has, api.Value{}))
	number, text := event(field(0, num(1))), event(field(1, word("a")))
	wantBatch(t, e, [][]api.Field{number, text, nil, number, number, text},
		[]int{1}, []int{2}, nil, []int{1}, []int{1}, []int{2})
}

// What was there ahead of a batch is asked, and nothing older.
func TestBatchBehindChanges(t *testing.T) {
	e := newEngine(t, api.Number, api.Word)
	events := [][]api.Field{event(field(0, num(1)), field(1, word("a"))), nil}
	wantBatch(t, e, events, nil, nil)
	subscribe(t, e, 4, cond(0, api.Is, num(1)))
	wantBatch(t, e, events, []int{4}, nil)
	subscribe(t, e, 2)
	wantBatch(t, e, events, []int{2, 4}, []int{2})
	wantRebuild(t, e, []int{1, 0}, api.OK)
	wantBatch(t, e, events, []int{2, 4}, []int{2})
	wantStats(t, e, 2, 3, 8)
	wantUnsubscribe(t, e, 4, api.OK)
	wantBatch(t, e, events, []int{2}, []int{2})
	wantUnsubscribe(t, e, 2, api.OK)
	wantBatch(t, e, events, nil, nil)
	wantStats(t, e, 0, 1, 12)
}

func TestBatchCountsEvents(t *testing.T) {
	e := newEngine(t, api.Number)
	subscribe(t, e, 1, cond(0, api.Is, num(1)))
	one, none, wrong := event(field(0, num(1))), event(field(0, num(2))), event(field(1, num(1)))
	wantBatch(t, e, [][]api.Field{one, none, nil}, []int{1}, nil, nil)
	wantStats(t, e, 1, 2, 3)
	wantBatchRefused(t, e, [][]api.Field{one, none, nil, wrong}, api.ErrEvent, 3)
	wantBatchRefused(t, e, make([][]api.Field, 51), api.ErrMany, 0)
	wantStats(t, e, 1, 2, 3)
	wantMatch(t, e, one, 1)
	wantBatch(t, e, [][]api.Field{none}, nil)
	wantStats(t, e, 1, 2, 7)
}

func TestBatchLeavesItsEventsAlone(t *testing.T) {
	e := steps(t)
	events, _ := stepEvents(20)
	wantBatchLeavesAlone(t, e, events)
	wantBatchLeavesAlone(t, e, append(events, wrongEvents()...))
	wantBatchLeavesAlone(t, e, append(events, make([][]api.Field, 31)...))
}

func wantBatchLeavesAlone(t *testing.T, e *trommel.Engine, events [][]api.Field) {
	t.Helper()
	junk := field(77, num(77))
	var given [][]api.Field
	for _, fields := range events {
		given = append(given, withRoom(fields, junk))
	}
	spare := [][]api.Field{event(junk), event(junk, junk)}
	whole := slices.Concat(given, spare)
	e.Batch(whole[:len(given)])
	for i, fields := range events {
		if &whole[i][:1][0] != &given[i][:1][0] {
			t.Fatalf("P2: a list of events was written into, at %d", i)
		}
		wantWhole(t, "an event of a batch", whole[i], fields, junk)
	}
	if room := whole[len(given):]; !slices.EqualFunc(room, spare, slices.Equal) {
		t.Fatalf("P2: the spare room of a list of events was written into: %v", room)
	}
}

func TestBatchDoesNotKeepItsEvents(t *testing.T) {
	e := steps(t)
	events, ids := stepEvents(30)
	got, _, _ := e.Batch(events)
	for _, l := range events {
		spoil(l, field(77, num(77)))
	}
	spoil(events, nil)
	if !slices.EqualFunc(got, ids, slices.Equal) {
		t.Fatalf("P2: an answer changed with the events: %v", got)
	}
	events, ids = stepEvents(30)
	wantBatch(t, e, events, ids...)
}

// One list may be several events of a batch; what comes out of each is its own all the same.
func TestBatchListsThatComeOutAreNew(t *testing.T) {
	e := steps(t)
	same := event(field(0, num(8)), field(1, word("a")))
	events := slices.Repeat([][]api.Field{same, nil}, 25)
	other, _, _ := e.Batch(events)
	for i := range events {
		got, no, _ := e.Batch(events)
		if no != api.OK || len(got) != len(events) {
			t.Fatalf("P8: %d lists, %d", len(got), no)
		}
		spoil(got[i], 77)
		for j, l := range got {
			want := upTo(8)
			if j%2 == 1 {
				want = []int{99}
			}
			if j != i && !slices.Equal(l, want) || !slices.Equal(other[j], want) {
				t.Fatalf("P2: list %d changed with list %d: %v, %v", j, i, l, other[j])
			}
		}
		for _, l := range got {
			spoil(l, 78)
		}
		spoil(got, nil)
	}
	wantMatch(t, e, same, upTo(8)...)
	wantMatch(t, e, nil, 99)
	wantUnsubscribe(t, e, 77, api.OK)
	wantUnsubscribe(t, e, 78, api.OK)
	if !slices.Equal(other[0], upTo(8)) || !slices.Equal(other[49], []int{99}) {
		t.Fatalf("P2: an answer changed with the filters: %v", other)
	}
}

// One answer, however many goroutines run at a time, and whether or not the tree is built when they start.
func TestBatchUnderSchedules(t *testing.T) {
	defer runtime.GOMAXPROCS(runtime.GOMAXPROCS(0))
	e := steps(t)
	events, ids := stepEvents(api.MaxBatch)
	for _, running := range []int{1, 2, 3, 16} {
		runtime.GOMAXPROCS(running)
		for round := range 60 {
			if round%2 == 0 {
				wantRebuild(t, e, [][]int{{0, 1}, {1, 0}}[round/2%2], api.OK)
			}
			wantBatch(t, e, events, ids...)
		}
	}
	if s := e.Stats(); s.Events != 4*60*api.MaxBatch {
		t.Fatalf("P10: %d events were counted", s.Events)
	}
}

func TestBatchLeavesNoGoroutine(t *testing.T) {
	e := steps(t)
	events, _ := stepEvents(api.MaxBatch)
	wrong := append(slices.Clone(events[:49]), wrongEvents()[0])
	ahead := goroutines()
	for range 200 {
		e.Batch(events)
		e.Batch(wrong)
	}
	// One that has said that it is done may still be there for a moment.
	for end := time.Now().Add(10 * time.Second); goroutines() > ahead; runtime.Gosched() {
		if time.Now().After(end) {
			t.Fatalf("P2: %d goroutines more", goroutines()-ahead)
		}
	}
}

func TestBatchesOfEnginesSideBySide(t *testing.T) {
	events, ids := stepEvents(api.MaxBatch)
	for i := range 8 {
		e := steps(t)
		t.Run("engine "+string(rune('A'+i)), func(t *testing.T) {
			t.Parallel()
			for range 20 {
				wantBatch(t, e, events, ids...)
			}
			if s := e.Stats(); s.Events != 20*api.MaxBatch {
				t.Fatalf("P10: %d events were counted", s.Events)
			}
		})
	}
}
