package terms

import (
	"slices"
	"testing"

	"trommel/api"
)

func TestCompare(t *testing.T) {
	rising := [][]api.Value{
		{{N: -1 << 63}, {N: -1}, {}, {N: 1}, {N: 10}, {N: 1<<63 - 1}},
		{{}, {S: "\x00"}, {S: "B"}, {S: "a"}, {S: "a\x00"}, {S: "ab"}, {S: "b"}, {S: "é"}, {S: "\xff"}},
	}
	for _, l := range rising {
		for i, x := range l {
			for k, y := range l {
				if side := Compare(x, y); side < 0 != (i < k) || side > 0 != (i > k) {
					t.Errorf("Compare(%v, %v) = %d", x, y, side)
				}
			}
		}
	}
}

func TestFits(t *testing.T) {
	for _, c := range []struct {
		v            api.Value
		number, word bool
	}{
		{api.Value{}, true, true},
		{api.Value{N: -5}, true, false},
		{api.Value{S: "12345678901234567890"}, false, true},
		{api.Value{S: "123456789012345678901"}, false, false},
		{api.Value{N: 1, S: "a"}, false, false},
	} {
		if fits(api.Number, c.v) != c.number || fits(api.Word, c.v) != c.word {
			t.Errorf("fits of %v: %v, %v", c.v, fits(api.Number, c.v), fits(api.Word, c.v))
		}
	}
}

func TestKindMayBe(t *testing.T) {
	for kind := -1; kind <= 11; kind++ {
		if KindMayBe(kind) != (kind >= 1 && kind <= 9) {
			t.Errorf("KindMayBe(%d) = %v", kind, KindMayBe(kind))
		}
	}
}

func TestBadCond(t *testing.T) {
	schema := []int{api.Number}
	good, bad := api.Cond{Kind: api.Has}, api.Cond{Attr: 1, Kind: api.Has}
	if _, found := BadCond(schema, []api.Cond{good, good}); found {
		t.Error("a bad condition among good ones")
	}
	if at, found := BadCond(schema, []api.Cond{good, bad, bad}); at != 1 || !found {
		t.Errorf("BadCond = %d, %v", at, found)
	}
}

func TestOrderMayBe(t *testing.T) {
	for _, c := range []struct {
		attrs int
		order []int
		want  bool
	}{
		{1, []int{0}, true},
		{2, []int{1, 0}, true},
		{6, []int{5, 3, 1, 0, 2, 4}, true},
		{1, nil, false},
		{1, []int{1}, false},
		{2, []int{0}, false},
		{2, []int{0, 0}, false},
		{2, []int{0, -1}, false},
		{2, []int{0, 1, 1}, false},
		{6, []int{0, 1, 2, 3, 4, 6}, false},
		{6, []int{0, 1, 2, 3, 4, 5, 6}, false},
	} {
		if OrderMayBe(make([]int, c.attrs), c.order) != c.want {
			t.Errorf("OrderMayBe of %d attributes, %v: %v", c.attrs, c.order, !c.want)
		}
	}
}

func TestCompareConds(t *testing.T) {
	rising := []api.Cond{
		{Kind: api.Between, B: api.Value{N: 9}},
		{Kind: api.Between, A: api.Value{N: 1}, B: api.Value{N: 2}},
		{Kind: api.Between, A: api.Value{N: 1}, B: api.Value{N: 3}},
		{Kind: api.Has},
		{Attr: 1, Kind: api.Is, A: api.Value{S: "a"}},
		{Attr: 1, Kind: api.Is, A: api.Value{S: "b"}},
	}
	for i, x := range rising {
		for k, y := range rising {
			if side := CompareConds(x, y); side < 0 != (i < k) || side > 0 != (i > k) {
				t.Errorf("CompareConds(%v, %v) = %d", x, y, side)
			}
		}
	}
}

func TestNewFilter(t *testing.T) {
	has, is := api.Cond{Attr: 1, Kind: api.Has}, api.Cond{Kind: api.Is, A: api.Value{N: 5}}
	below := api.Cond{Attr: 1, Kind: api.Below, A: api.Value{S: "a"}}
	conds := []api.Cond{has, below, is, has, is}
	f := NewFilter(4, conds)
	if f.Id != 4 || !slices.Equal(f.Conds, []api.Cond{is, below, has}) {
		t.Fatalf("NewFilter = %v", f)
	}
	if !slices.Equal(conds, []api.Cond{has, below, is, has, is}) {
		t.Errorf("NewFilter wrote into the conditions: %v", conds)
	}
	clear(conds)
	if !slices.Equal(f.On(0), []api.Cond{is}) || !slices.Equal(f.On(1), []api.Cond{below, has}) || len(f.On(2)) != 0 {
		t.Errorf("On: %v, %v, %v", f.On(0), f.On(1), f.On(2))
	}
}

func TestReadEvent(t *testing.T) {
	schema := []int{api.Number, api.Word}
	e, at, ok := ReadEvent(schema, []api.Field{{Attr: 1, V: api.Value{S: "a"}}})
	if at != 0 || !ok {
		t.Fatalf("ReadEvent = %d, %v", at, ok)
	}
	if v, has := e.Value(0); v != (api.Value{}) || has {
		t.Errorf("Value(0) = %v, %v", v, has)
	}
	if v, has := e.Value(1); v != (api.Value{S: "a"}) || !has {
		t.Errorf("Value(1) = %v, %v", v, has)
	}
	if _, at, ok := ReadEvent(schema, []api.Field{{}, {Attr: 1}, {Attr: 0}}); at != 2 || ok {
		t.Errorf("ReadEvent of an attribute twice = %d, %v", at, ok)
	}
}
