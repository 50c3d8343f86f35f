package trommel_test

import (
	"math"
	"math/rand/v2"
	"slices"
	"strings"
	"sync"
	"testing"

	"trommel/api"
	"trommel/trommel"
)

// mustEncode encodes a filter that is to be taken.
func mustEncode(t *testing.T, filter []api.Cond) string {
	t.Helper()
	told, no := trommel.Encode(filter)
	if no != api.OK || len(told) < 1 || len(told) > 4+64*len(filter) {
		t.Fatalf("P11: Encode(%v) = %q (%d bytes), %d", filter, told, len(told), no)
	}
	return told
}

// wantRoundTrip encodes a filter, reads it again, and gives its bytes.
func wantRoundTrip(t *testing.T, filter []api.Cond) string {
	t.Helper()
	told := mustEncode(t, filter)
	if back, no := trommel.Decode(told); !slices.Equal(back, filter) || no != api.OK {
		t.Fatalf("P11: Decode(%q) = %v, %d, want %v", told, back, no, filter)
	}
	return told
}

func wantEncodeRefused(t *testing.T, filter []api.Cond, want api.Errno) {
	t.Helper()
	if told, no := trommel.Encode(filter); told != "" || no != want {
		t.Fatalf("P11: Encode(%v) = %q, %d, want %d", filter, told, no, want)
	}
}

func wantNoText(t *testing.T, told string) {
	t.Helper()
	if filter, no := trommel.Decode(told); len(filter) != 0 || no != api.ErrText {
		t.Fatalf("P11: Decode(%q) = %v, %d, want ErrText", told, filter, no)
	}
}

// wantNoTextOrItself reads bytes that may be those of a filter or not.
func wantNoTextOrItself(t *testing.T, told string) {
	t.Helper()
	filter, no := trommel.Decode(told)
	if no != api.OK {
		wantNoText(t, told)
		return
	}
	if again, no := trommel.Encode(filter); again != told || no != api.OK {
		t.Fatalf("P11: Decode(%q) = %v, of which Encode answers %q, %d", told, filter, again, no)
	}
}

// fullValues have all that a value has room for.
func fullValues() []api.Value {
	full := strings.Repeat("x", api.MaxWord)
	return []api.Value{
		{N: -1, S: full}, {N: 1, S: full}, {N: math.MinInt64, S: strings.Repeat("\xff", api.MaxWord)},
		{N: math.MaxInt64, S: strings.Repeat("\x00", api.MaxWord)},
	}
}

// oddNumbers have a single bit, all bits up to one, or the negative of these.
func oddNumbers() []int64 {
	l := []int64{0}
	for bit := range 64 {
		n := int64(1) << bit
		l = append(l, n, n-1, -n, 1-n)
	}
	return l
}

func TestEncodeAndDecode(t *testing.T) {
	wantRoundTrip(t, nil)
	wantRoundTrip(t, []api.Cond{})
	wantRoundTrip(t, []api.Cond{cond(0, api.AtLeast, num(5)), cond(1, api.Begins, word("ab"))})
	wantRoundTrip(t, []api.Cond{between(0, num(9), num(5)), cond(1, api.Has, api.Value{})})
	for attr := range api.MaxAttrs {
		for kind := api.Is; kind <= api.Has; kind++ {
			for _, a := range append(fullValues(), num(0), num(-7), word("a"), word("")) {
				wantRoundTrip(t, []api.Cond{cond(attr, kind, a)})
				wantRoundTrip(t, []api.Cond{{Attr: attr, Kind: kind, B: a}})
				wantRoundTrip(t, []api.Cond{{Attr: attr, Kind: kind, A: a, B: num(3)}, {Attr: attr, Kind: kind, A: word("b"), B: a}})
			}
		}
	}
}

func TestEncodeNumbers(t *testing.T) {
	for _, n := range oddNumbers() {
		wantRoundTrip(t, []api.Cond{cond(0, api.Is, num(n))})
		wantRoundTrip(t, []api.Cond{between(5, num(-n), num(n))})
		wantRoundTrip(t, []api.Cond{between(5, word("a"), api.Value{N: n, S: "b"})})
	}
}

func TestEncodeWords(t *testing.T) {
	for size := range api.MaxWord + 1 {
		for _, b := range []string{"\x00", "\x01", "\x09", "a", "\x7f", "\x80", "\xff"} {
			s := strings.Repeat(b, size)
			wantRoundTrip(t, []api.Cond{cond(1, api.Is, word(s)), cond(1, api.Begins, word(s))})
			wantRoundTrip(t, []api.Cond{between(1, word(s), word("z"+s[:size/2])), between(1, api.Value{}, word(s))})
		}
	}
	for b := range 256 {
		wantRoundTrip(t, []api.Cond{cond(1, api.Is, word(string([]byte{byte(b)})))})
	}
	wantRoundTrip(t, []api.Cond{cond(1, api.Is, word("é\x00\xff|,;\"\n"))})
}

// The longest filters keep to the bound too.
func TestEncodeSizes(t *testing.T) {
	for _, v := range fullValues() {
		for size := range api.MaxConds + 1 {
			wantRoundTrip(t, slices.Repeat([]api.Cond{{Attr: 5, Kind: api.Has, A: v, B: v}}, size))
			wantRoundTrip(t, slices.Repeat([]api.Cond{{Kind: api.Is}}, size))
		}
	}
}

// Conditions stay in their order, those that come again too.
func TestEncodeKeepsTheOrder(t *testing.T) {
	one, two, three := cond(5, api.Has, api.Value{}), cond(0, api.Is, num(1)), cond(1, api.Is, word("a"))
	seen := map[string]bool{}
	for _, filter := range [][]api.Cond{
		nil, {one}, {one, one}, {one, two}, {two, one}, {one, two, one}, {one, one, two}, {two, one, one},
		{one, two, three}, {three, two, one}, {two, three, one},
	} {
		told := wantRoundTrip(t, filter)
		if seen[told] {
			t.Fatalf("P11: %q is told of two filters", told)
		}
		seen[told] = true
	}
}

// Encode asks for no more than P11 says: what no schema takes can still be told.
func TestEncodeNeedsNoSchema(t *testing.T) {
	e := newEngine(t, api.Number, api.Word)
	for _, c := range []api.Cond{
		cond(0, api.Begins, num(1)), cond(0, api.Has, num(1)), cond(1, api.Has, word("a")),
		{Kind: api.Is, B: num(1)}, {Kind: api.Is, B: word("a")}, cond(0, api.Is, api.Value{N: 1, S: "a"}),
		cond(1, api.Is, num(1)), cond(5, api.Is, num(1)),
	} {
		wantSubscribe(t, e, 1, []api.Cond{c}, api.ErrCond, 0)
		wantRoundTrip(t, []api.Cond{c})
	}
}

func TestEncodeRefuses(t *testing.T) {
	good := cond(0, api.Is, num(1))
	long := strings.Repeat("x", api.MaxWord+1)
	bad := []api.Cond{
		{}, cond(0, -1, num(1)), cond(0, 10, num(1)), cond(0, 256, num(1)), cond(0, 257, num(1)),
		cond(-1, api.Is, num(1)), cond(6, api.Is, num(1)), cond(256, api.Is, num(1)), cond(-256, api.Is, num(1)),
		cond(0, math.MinInt, num(1)), cond(0, math.MaxInt, num(1)), cond(math.MinInt, 1, num(1)), cond(math.MaxInt, 1, num(1)),
		cond(0, api.Is, word(long)), {Kind: api.Is, B: word(long)}, between(0, word(long), word(long)),
		cond(0, api.Has, word(strings.Repeat("x", 256))), {Kind: api.Has, B: word(strings.Repeat("x", 1<<20))},
	}
	for _, c := range bad {
		wantEncodeRefused(t, []api.Cond{c}, api.ErrCond)
		for at := range api.MaxConds {
			filter := slices.Repeat([]api.Cond{good}, api.MaxConds)
			filter[at] = c
			wantEncodeRefused(t, filter, api.ErrCond)
		}
		wantEncodeRefused(t, slices.Repeat([]api.Cond{c}, api.MaxConds+1), api.ErrMany)
	}
	for _, size := range []int{api.MaxConds + 1, 255, 256, 257, 264, 1 << 16} {
		wantEncodeRefused(t, slices.Repeat([]api.Cond{good}, size), api.ErrMany)
	}
}

// Every combination of odd parts is taken or refused as P11 says.
func TestEncodeOddConditions(t *testing.T) {
	values := []api.Value{{}, num(-1), word("a"), word(strings.Repeat("a", 20)), word(strings.Repeat("a", 21)), {N: 1, S: "a"}}
	for _, attr := range edgeNumbers() {
		for _, kind := range edgeNumbers() {
			for _, a := range values {
				for _, b := range values {
					filter := []api.Cond{{Attr: attr, Kind: kind, A: a, B: b}}
					if attr < 0 || attr > 5 || kind < 1 || kind > 9 || len(a.S) > 20 || len(b.S) > 20 {
						wantEncodeRefused(t, filter, api.ErrCond)
					} else {
						wantRoundTrip(t, filter)
					}
				}
			}
		}
	}
}

// sampleFilters are told in bytes of many shapes.
func sampleFilters() [][]api.Cond {
	v := fullValues()
	return [][]api.Cond{
		nil,
		{cond(0, api.Is, api.Value{})},
		{cond(5, api.Has, api.Value{})},
		{cond(0, api.AtLeast, num(5)), cond(1, api.Begins, word("ab"))},
		{between(2, v[0], v[1]), cond(1, api.Is, word("\x00\xff")), cond(1, api.Is, word("\x00"))},
		slices.Repeat([]api.Cond{between(3, v[2], v[3])}, api.MaxConds),
	}
}

// Every beginning and every end of what is told, and all but one byte of it.
func TestDecodeOfAPart(t *testing.T) {
	wantNoText(t, "")
	for _, filter := range sampleFilters() {
		told := wantRoundTrip(t, filter)
		for size := range len(told) {
			wantNoTextOrItself(t, told[:size])
			wantNoTextOrItself(t, told[size:])
			wantNoTextOrItself(t, told[:size]+told[size+1:])
		}
	}
}

func TestDecodeOfMore(t *testing.T) {
	for _, filter := range sampleFilters() {
		told := wantRoundTrip(t, filter)
		for _, more := range append(sampleFilters(), nil) {
			wantNoTextOrItself(t, told+mustEncode(t, more))
		}
		for b := range 256 {
			wantNoTextOrItself(t, told+string([]byte{byte(b)}))
		}
		for at := range told {
			wantNoTextOrItself(t, told[:at]+told)
			wantNoTextOrItself(t, told+told[at:])
		}
	}
	longest := 4 + 64*api.MaxConds
	for _, size := range []int{longest + 1, 9000, 1 << 20} {
		for _, b := range []string{"\x00", "\x01", "\x08", "\x09", "0", "\x80", "\xff"} {
			wantNoText(t, strings.Repeat(b, size))
			wantNoText(t, mustEncode(t, nil)+strings.Repeat(b, size))
		}
	}
}

// Every other byte at every place.
func TestDecodeOfAChangedByte(t *testing.T) {
	for _, filter := range sampleFilters() {
		told := wantRoundTrip(t, filter)
		for at := range told {
			for add := 1; add < 256; add++ {
				changed := []byte(told)
				changed[at] += byte(add)
				wantNoTextOrItself(t, string(changed))
			}
		}
	}
}

// All bytes that are so short.
func TestDecodeOfAllShortBytes(t *testing.T) {
	for size := range 3 {
		for n := range 1 << (8 * size) {
			wantNoTextOrItself(t, string([]byte{byte(n), byte(n >> 8)}[:size]))
		}
	}
}

// oddFilter is one that Encode takes, though hardly any schema does.
func (r source) oddFilter() []api.Cond {
	var l []api.Cond
	for range pick(r, 0, 1, 1, 2, 3, 7, 8) {
		c := api.Cond{Attr: r.IntN(6), Kind: 1 + r.IntN(9)}
		c.A = api.Value{N: pick(r, r.number(), r.Int64()), S: r.word()}
		c.B = api.Value{N: pick(r, r.number(), -r.Int64()), S: r.word()}
		l = append(l, c)
	}
	return l
}

// disturb changes some bytes, and so mostly gives bytes of no filter.
func (r source) disturb(told string) string {
	b := []byte(told)
	for range 1 + r.IntN(3) {
		at := r.IntN(len(b) + 1)
		switch r.IntN(3) {
		case 0:
			b = slices.Insert(b, at, byte(r.IntN(256)))
		case 1:
			b = slices.Delete(b, at, min(len(b), at+1+r.IntN(3)))
		default:
			for i := at; i < min(len(b), at+1); i++ {
				b[i] = byte(r.IntN(24))
			}
		}
	}
	return string(b)
}

func TestRandomFilters(t *testing.T) {
	r := source{rand.New(rand.NewPCG(3, 4))}
	seen := map[string][]api.Cond{}
	for range 20_000 {
		filter := r.oddFilter()
		told := wantRoundTrip(t, filter)
		if other, there := seen[told]; there && !slices.Equal(other, filter) {
			t.Fatalf("P11: %v and %v are told alike", other, filter)
		}
		seen[told] = filter
		wantNoTextOrItself(t, r.disturb(told))
	}
}

func TestEncodeLeavesTheFilterAlone(t *testing.T) {
	junk := cond(77, 77, num(77))
	for _, filter := range append(sampleFilters(), []api.Cond{{Kind: api.Is}, {Kind: 10}}, make([]api.Cond, 9)) {
		given := withRoom(filter, junk)
		told, no := trommel.Encode(given)
		wantWhole(t, "a filter", given, filter, junk)
		spoil(given, junk)
		if again, noAgain := trommel.Encode(filter); again != told || noAgain != no {
			t.Fatalf("P2: Encode(%v) = %q, %d, and then %q, %d", filter, told, no, again, noAgain)
		}
	}
}

func TestDecodeGivesNewLists(t *testing.T) {
	junk := cond(77, 77, num(77))
	for _, filter := range sampleFilters() {
		told := mustEncode(t, filter)
		one, _ := trommel.Decode(told)
		other, _ := trommel.Decode(told)
		spoil(one, junk)
		if !slices.Equal(other, filter) {
			t.Fatalf("P2: another answer changed: %v, want %v", other, filter)
		}
		spoil(other, junk)
		wantRoundTrip(t, filter)
	}
}

// A filter that was told and read again does in an engine what it did.
func TestDecodedFiltersAreMet(t *testing.T) {
	e := newEngine(t, api.Number, api.Word)
	for id, filter := range [][]api.Cond{
		{cond(0, api.AtLeast, num(5)), cond(1, api.Begins, word("ab"))}, nil, {cond(0, api.IsNot, num(5))},
	} {
		back, no := trommel.Decode(mustEncode(t, filter))
		if no != api.OK {
			t.Fatalf("P11: Decode = %d", no)
		}
		subscribe(t, e, id, back...)
	}
	wantMatch(t, e, event(field(0, num(5)), field(1, word("abc"))), 0, 1)
	wantMatch(t, e, event(field(0, num(6))), 1, 2)
}

// Encode and Decode keep nothing, so they may be called side by side.
func TestEncodeSideBySide(t *testing.T) {
	filters := sampleFilters()
	backs := make([][]api.Cond, 8*len(filters))
	var done sync.WaitGroup
	for i := range backs {
		done.Go(func() {
			told, _ := trommel.Encode(filters[i%len(filters)])
			backs[i], _ = trommel.Decode(told)
		})
	}
	done.Wait()
	for i, back := range backs {
		if !slices.Equal(back, filters[i%len(filters)]) {
			t.Errorf("P2: filter %d is read as %v", i, back)
		}
	}
}
