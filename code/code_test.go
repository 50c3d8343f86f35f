package code

import (
	"slices"
	"strings"
	"testing"
	"unsafe"

	"trommel/api"
)

// Bytes that were told earlier are to be read later, so the layout is held fast.
func TestLayout(t *testing.T) {
	zeros := strings.Repeat("\x00", 9)
	for _, c := range []struct {
		filter []api.Cond
		want   string
	}{
		{nil, "\x00"},
		{[]api.Cond{{Kind: api.Is}}, "\x01\x00\x01" + zeros + zeros},
		{[]api.Cond{{Attr: 5, Kind: api.Has}}, "\x01\x05\x09" + zeros + zeros},
		{
			[]api.Cond{{Attr: 2, Kind: api.Between, A: api.Value{N: -2, S: "ab"}, B: api.Value{N: 0x0102030405060708}}, {Kind: api.Is}},
			"\x02\x02\x07\xff\xff\xff\xff\xff\xff\xff\xfe\x02ab\x01\x02\x03\x04\x05\x06\x07\x08\x00" + "\x00\x01" + zeros + zeros,
		},
	} {
		if told, no := Encode(c.filter); told != c.want || no != api.OK {
			t.Errorf("Encode(%v) = %q, %d, want %q", c.filter, told, no, c.want)
		}
		if back, no := Decode(c.want); !slices.Equal(back, c.filter) || no != api.OK {
			t.Errorf("Decode(%q) = %v, %d, want %v", c.want, back, no, c.filter)
		}
	}
}

// Bytes laid out as those of a filter would be, but of one that may not be told.
func TestDecodeBeyondTheBounds(t *testing.T) {
	zeros := strings.Repeat("\x00", 9)
	is := "\x00\x01" + zeros + zeros
	wordOf := func(size int) string {
		return strings.Repeat("\x00", 8) + string([]byte{byte(size)}) + strings.Repeat("x", size)
	}
	for _, told := range []string{
		"\x01\x00\x00" + zeros + zeros,
		"\x01\x00\x0a" + zeros + zeros,
		"\x01\x06\x01" + zeros + zeros,
		"\x01\xff\x01" + zeros + zeros,
		"\x01\x00\x01" + wordOf(21) + zeros,
		"\x01\x00\x01" + zeros + wordOf(21),
		"\x01\x00\x01" + wordOf(255) + wordOf(255),
		"\x09" + strings.Repeat(is, 9),
		"\xff" + strings.Repeat(is, 255),
		"\x00" + is,
		"\x00\x00",
		"\x01" + is + is,
		"\x01" + is + "\x00",
		"\x02" + is,
		"\x01" + is[:len(is)-1],
		"\x01",
		"",
	} {
		if back, no := Decode(told); len(back) != 0 || no != api.ErrText {
			t.Errorf("Decode(%q) = %v, %d, want ErrText", told, back, no)
		}
	}
}

// within tells whether a word lies in the memory of another string.
func within(s, memory string) bool {
	first, start := uintptr(unsafe.Pointer(unsafe.StringData(s))), uintptr(unsafe.Pointer(unsafe.StringData(memory)))
	return first >= start && first < start+uintptr(len(memory))
}

func TestWordsThatComeOutAreNew(t *testing.T) {
	told, _ := Encode([]api.Cond{{Kind: api.Between, A: api.Value{S: "abc"}, B: api.Value{S: strings.Repeat("z", api.MaxWord)}}})
	filter, no := Decode(told)
	if no != api.OK || len(filter) != 1 {
		t.Fatalf("Decode(%q) = %v, %d", told, filter, no)
	}
	if within(filter[0].A.S, told) || within(filter[0].B.S, told) {
		t.Error("a word shares memory with the bytes that were handed in")
	}
}
