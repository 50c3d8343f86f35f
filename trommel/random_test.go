package trommel_test

import (
	"math"
	"math/rand/v2"
	"slices"
	"strings"
	"testing"

	"trommel/api"
	"trommel/trommel"
)

// model answers what the document says in the plainest way, to hold an engine against.
type model struct {
	schema  []int
	filters map[int][]api.Cond
	events  int
}

func modelFits(attrType int, v api.Value) bool {
	switch attrType {
	case api.Number:
		return len(v.S) == 0
	case api.Word:
		return v.N == 0 && len(v.S) <= 20
	}
	return false
}

func (m *model) mayBe(c api.Cond) bool {
	if c.Attr < 0 || c.Attr >= len(m.schema) {
		return false
	}
	zero := api.Value{}
	attrType := m.schema[c.Attr]
	switch c.Kind {
	case 1, 2, 3, 4, 5, 6:
		return modelFits(attrType, c.A) && c.B == zero
	case 7:
		return modelFits(attrType, c.A) && modelFits(attrType, c.B)
	case 8:
		return attrType == api.Word && modelFits(attrType, c.A) && c.B == zero
	case 9:
		return c.A == zero && c.B == zero
	}
	return false
}

func (m *model) subscribe(id int, filter []api.Cond) (api.Errno, int) {
	if id < 0 {
		return api.ErrId, 0
	}
	if _, there := m.filters[id]; there {
		return api.ErrTwice, 0
	}
	if len(filter) > 8 {
		return api.ErrMany, 0
	}
	for i, c := range filter {
		if !m.mayBe(c) {
			return api.ErrCond, i
		}
	}
	if len(m.filters) == 100 {
		return api.ErrFull, 0
	}
	m.filters[id] = slices.Clone(filter)
	return api.OK, 0
}

func (m *model) unsubscribe(id int) api.Errno {
	if _, there := m.filters[id]; !there {
		return api.ErrNone
	}
	delete(m.filters, id)
	return api.OK
}

// ahead tells whether x is ahead of y, byte by byte.
func ahead(x, y api.Value) bool {
	if x.N != y.N {
		return x.N < y.N
	}
	for i := 0; i < len(x.S) && i < len(y.S); i++ {
		if x.S[i] != y.S[i] {
			return x.S[i] < y.S[i]
		}
	}
	return len(x.S) < len(y.S)
}

func modelMeets(fields []api.Field, c api.Cond) bool {
	for _, f := range fields {
		if f.Attr != c.Attr {
			continue
		}
		x := f.V
		switch c.Kind {
		case 1:
			return x == c.A
		case 2:
			return x != c.A
		case 3:
			return ahead(x, c.A)
		case 4:
			return ahead(x, c.A) || x == c.A
		case 5:
			return ahead(c.A, x)
		case 6:
			return ahead(c.A, x) || x == c.A
		case 7:
			return !ahead(x, c.A) && !ahead(c.B, x)
		case 8:
			return len(x.S) >= len(c.A.S) && x.S[:len(c.A.S)] == c.A.S
		case 9:
			return true
		}
	}
	return false
}

// badField gives the number of the first field that may not be, or -1.
func (m *model) badField(fields []api.Field) int {
	for i, f := range fields {
		if f.Attr < 0 || f.Attr >= len(m.schema) || !modelFits(m.schema[f.Attr], f.V) {
			return i
		}
		for _, earlier := range fields[:i] {
			if earlier.Attr == f.Attr {
				return i
			}
		}
	}
	return -1
}

func (m *model) match(fields []api.Field) ([]int, api.Errno, int) {
	if at := m.badField(fields); at >= 0 {
		return nil, api.ErrEvent, at
	}
	var ids []int
filters:
	for id, filter := range m.filters {
		for _, c := range filter {
			if !modelMeets(fields, c) {
				continue filters
			}
		}
		ids = append(ids, id)
	}
	slices.Sort(ids)
	m.events++
	return ids, api.OK, 0
}

func (m *model) batch(events [][]api.Field) ([][]int, api.Errno, int) {
	if len(events) > 50 {
		return nil, api.ErrMany, 0
	}
	for i, fields := range events {
		if m.badField(fields) >= 0 {
			return nil, api.ErrEvent, i
		}
	}
	var all [][]int
	for _, fields := range events {
		ids, _, _ := m.match(fields)
		all = append(all, ids)
	}
	return all, api.OK, 0
}

func (m *model) rebuild(order []int) api.Errno {
	sorted := slices.Sorted(slices.Values(order))
	if len(order) != len(m.schema) {
		return api.ErrOrder
	}
	for attr := range m.schema {
		if sorted[attr] != attr {
			return api.ErrOrder
		}
	}
	return api.OK
}

// fits tells whether Stats may answer this.
func (m *model) fits(s api.Stats) bool {
	return s.Filters == len(m.filters) && s.Events == m.events &&
		s.Nodes >= 1 && s.Nodes <= 1+len(m.filters)*len(m.schema)
}

// source makes arguments; the seed is fixed, so that each run makes the same.
type source struct{ *rand.Rand }

func pick[T any](r source, l ...T) T { return l[r.IntN(len(l))] }

func (r source) number() int64 {
	return pick[int64](r, math.MinInt64, -2, -1, 0, 1, 2, math.MaxInt64)
}

func (r source) word() string {
	return pick(r, "", "a", "ab", "ab\x00", "abc", "b", "\x00", "\xff", "é", strings.Repeat("a", 20))
}

func (r source) anyInt() int { return pick(r, edgeNumbers()...) }

func (r source) anyValue() api.Value {
	return api.Value{N: pick(r, 0, r.number()), S: pick(r, "", r.word(), strings.Repeat("a", 21))}
}

// value mostly fits.
func (r source) value(attrType int) api.Value {
	if r.IntN(40) == 0 {
		return r.anyValue()
	}
	if attrType == api.Number {
		return api.Value{N: r.number()}
	}
	return api.Value{S: r.word()}
}

// cond mostly may be.
func (r source) cond(schema []int) api.Cond {
	if r.IntN(40) == 0 {
		return api.Cond{Attr: r.anyInt(), Kind: r.anyInt(), A: r.anyValue(), B: r.anyValue()}
	}
	c := api.Cond{Attr: r.IntN(len(schema)), Kind: 1 + r.IntN(9)}
	if c.Kind != api.Has {
		c.A = r.value(schema[c.Attr])
	}
	if c.Kind == api.Between {
		c.B = r.value(schema[c.Attr])
	}
	return c
}

func (r source) filter(schema []int) []api.Cond {
	var l []api.Cond
	for range pick(r, 0, 1, 1, 2, 2, 3, 8, 9) {
		l = append(l, r.cond(schema))
	}
	return l
}

// event mostly may be.
func (r source) event(schema []int) []api.Field {
	var l []api.Field
	for _, attr := range r.Perm(len(schema)) {
		if r.IntN(6) > 0 {
			l = append(l, field(attr, r.value(schema[attr])))
		}
	}
	if r.IntN(20) == 0 {
		l = append(l, field(r.anyInt(), r.anyValue()), field(r.anyInt(), r.anyValue()))
	}
	return l
}

// batch has events that may not be only now and then, since one of them is enough for all to be refused.
func (r source) batch(m *model) [][]api.Field {
	var l [][]api.Field
	for range pick(r, 0, 1, 2, 5, 20, 49, 50, 51) {
		fields := r.event(m.schema)
		if m.badField(fields) >= 0 && r.IntN(20) > 0 {
			fields = nil
		}
		l = append(l, fields)
	}
	return l
}

func (r source) id() int {
	if r.IntN(20) == 0 {
		return r.anyInt()
	}
	return r.IntN(140)
}

// order mostly may be.
func (r source) order(schema []int) []int {
	l := r.Perm(len(schema))
	switch r.IntN(12) {
	case 0:
		l[r.IntN(len(l))] = r.anyInt()
	case 1:
		l = append(l, r.anyInt())
	case 2:
		l = l[1:]
	}
	return l
}

type pair struct {
	engine *trommel.Engine
	model  model
}

// step makes one call, and spoils what it handed in and what came out.
func step(t *testing.T, r source, p *pair) {
	t.Helper()
	switch r.IntN(20) {
	case 0, 1:
		id := r.id()
		if got, want := p.engine.Unsubscribe(id), p.model.unsubscribe(id); got != want {
			t.Fatalf("P5: Unsubscribe(%d) = %d, want %d", id, got, want)
		}
	case 2, 3, 4, 5, 6:
		stepSubscribe(t, r, p)
	case 7:
		order := r.order(p.model.schema)
		given := withRoom(order, 77)
		wantRebuild(t, p.engine, given, p.model.rebuild(order))
		wantWhole(t, "an order", given, order, 77)
		spoil(given, 77)
	case 8:
		if s := p.engine.Stats(); !p.model.fits(s) {
			t.Fatalf("P10: Stats() = %+v of %d filters and %d events", s, len(p.model.filters), p.model.events)
		}
	case 9:
		stepBatch(t, r, p)
	default:
		stepMatch(t, r, p)
	}
}

func stepSubscribe(t *testing.T, r source, p *pair) {
	t.Helper()
	junk := cond(77, 77, num(77))
	id, filter := r.id(), r.filter(p.model.schema)
	given := withRoom(filter, junk)
	no, at := p.engine.Subscribe(id, given)
	wantNo, wantAt := p.model.subscribe(id, filter)
	if no != wantNo || at != wantAt {
		t.Fatalf("P4: Subscribe(%d, %v) = %d, %d, want %d, %d", id, filter, no, at, wantNo, wantAt)
	}
	wantWhole(t, "a filter", given, filter, junk)
	spoil(given, junk)
}

func stepMatch(t *testing.T, r source, p *pair) {
	t.Helper()
	junk := field(77, num(77))
	fields := r.event(p.model.schema)
	w := pick(r, ways(p.engine)...)
	given := withRoom(fields, junk)
	ids, no, at := w.call(given)
	wantIds, wantNo, wantAt := p.model.match(fields)
	if !slices.Equal(ids, wantIds) || no != wantNo || at != wantAt {
		t.Fatalf("%s(%v) = %v, %d, %d, want %v, %d, %d", w.name, fields, ids, no, at, wantIds, wantNo, wantAt)
	}
	wantWhole(t, "an event", given, fields, junk)
	spoil(given, junk)
	spoil(ids, 77)
}

func stepBatch(t *testing.T, r source, p *pair) {
	t.Helper()
	junk := field(77, num(77))
	events := r.batch(&p.model)
	var given [][]api.Field
	for _, fields := range events {
		given = append(given, withRoom(fields, junk))
	}
	got, no, at := p.engine.Batch(given)
	want, wantNo, wantAt := p.model.batch(events)
	if !slices.EqualFunc(got, want, slices.Equal) || no != wantNo || at != wantAt {
		t.Fatalf("P8: Batch(%v) = %v, %d, %d, want %v, %d, %d", events, got, no, at, want, wantNo, wantAt)
	}
	for i, fields := range events {
		wantWhole(t, "an event of a batch", given[i], fields, junk)
		spoil(given[i], junk)
	}
	for _, ids := range got {
		spoil(ids, 77)
	}
	spoil(got, nil)
}

// Several engines side by side answer as the model does, whatever each of them is asked.
func TestRandomCalls(t *testing.T) {
	r := source{rand.New(rand.NewPCG(1, 2))}
	var pairs []pair
	for range 12 {
		var schema []int
		for range 1 + r.IntN(6) {
			schema = append(schema, 1+r.IntN(2))
		}
		pairs = append(pairs, pair{newEngine(t, schema...), model{schema: schema, filters: map[int][]api.Cond{}}})
	}
	for range 60_000 {
		step(t, r, &pairs[r.IntN(len(pairs))])
	}
}

// Every combination of odd parts: no call panics, and with an error all else is empty.
func TestOddArguments(t *testing.T) {
	long := strings.Repeat("\xff", 1<<16)
	values := []api.Value{{}, num(-1), num(math.MinInt64), word("a"), word(long), {N: 1, S: long}}
	e := newEngine(t, api.Number, api.Word, api.Number)
	m := model{schema: []int{api.Number, api.Word, api.Number}, filters: map[int][]api.Cond{}}
	for _, attr := range edgeNumbers() {
		for _, a := range values {
			l := event(field(attr, a), field(attr, a))
			for _, fields := range [][]api.Field{l, l[:1]} {
				if at := m.badField(fields); at < 0 {
					wantMatch(t, e, fields)
					wantBatch(t, e, [][]api.Field{nil, fields}, nil, nil)
				} else {
					wantRefused(t, e, fields, at)
					wantBatchRefused(t, e, [][]api.Field{nil, fields}, api.ErrEvent, 1)
				}
			}
			for _, kind := range edgeNumbers() {
				for _, b := range values {
					c := api.Cond{Attr: attr, Kind: kind, A: a, B: b}
					want := api.ErrCond
					if m.mayBe(c) {
						want = api.OK
					}
					wantSubscribe(t, e, 1, []api.Cond{c}, want, 0)
					e.Unsubscribe(1)
					wantRebuild(t, e, []int{kind, attr}, api.ErrOrder)
				}
			}
		}
	}
}
