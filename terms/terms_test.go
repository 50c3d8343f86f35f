package terms

import (
	"slices"
	"testing"

	"trommel/api"
)

func TestCompare(t *testing.T) {
	rising := [][]api.Value{
		{{N: -1 << 63}, {N: -1}, {}, {N: 1}, {N: 10}, {N: 1<<63 - 1}},
		{{}, {S: "\x00"}, {S: "B"}, {S: "a"}, {S: "a\x00"}, {S: "ab"}, {S: "b"}, {S: "é"}, {S: "\xff"}},
	}
	for _, l := range rising {
		for i, x := range l {
			for k, y := range l {
				if side := compare(x, y); side < 0 != (i < k) || side > 0 != (i > k) {
					t.Errorf("compare(%v, %v) = %d", x, y, side)
				}
			}
		}
	}
}

func TestFits(t *testing.T) {
	for _, c := range []struct {
		v            api.Value
		number, word bool
	}{
		{api.Value{}, true, true},
		{api.Value{N: -5}, true, false},
		{api.Value{S: "12345678901234567890"}, false, true},
		{api.Value{S: "123456789012345678901"}, false, false},
		{api.Value{N: 1, S: "a"}, false, false},
	} {
		if fits(api.Number, c.v) != c.number || fits(api.Word, c.v) != c.word {
			t.Errorf("fits of %v: %v, %v", c.v, fits(api.Number, c.v), fits(api.Word, c.v))
		}
	}
}

func TestBadCond(t *testing.T) {
	schema := []int{api.Number}
	good, bad := api.Cond{Kind: api.Has}, api.Cond{Attr: 1, Kind: api.Has}
	if _, found := BadCond(schema, []api.Cond{good, good}); found {
		t.Error("a bad condition among good ones")
	}
	if at, found := BadCond(schema, []api.Cond{good, bad, bad}); at != 1 || !found {
		t.Errorf("BadCond = %d, %v", at, found)
	}
}

func TestCopyFilter(t *testing.T) {
	filter := []api.Cond{{Kind: api.Between, A: api.Value{S: "a"}, B: api.Value{S: "b"}}, {Kind: api.Has}}
	l := CopyFilter(filter)
	if !slices.Equal(l, filter) {
		t.Fatalf("CopyFilter = %v", l)
	}
	filter[0] = api.Cond{}
	if l[0].Kind != api.Between {
		t.Error("the copy changed with the filter")
	}
}

func TestReadEvent(t *testing.T) {
	schema := []int{api.Number, api.Word}
	e, at, ok := ReadEvent(schema, []api.Field{{Attr: 1, V: api.Value{S: "a"}}})
	if at != 0 || !ok {
		t.Fatalf("ReadEvent = %d, %v", at, ok)
	}
	if !e.Meets(nil) || !e.Meets([]api.Cond{{Attr: 1, Kind: api.Has}}) || e.Meets([]api.Cond{{Kind: api.Has}}) {
		t.Error("the event has not just the attribute 1")
	}
	if _, at, ok := ReadEvent(schema, []api.Field{{}, {Attr: 1}, {Attr: 0}}); at != 2 || ok {
		t.Errorf("ReadEvent of an attribute twice = %d, %v", at, ok)
	}
}
