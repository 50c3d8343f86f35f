// Package code: filters told as bytes.
//
// One byte tells how many conditions there are. Of each follow a byte with its attribute, one with its kind, then A and B: N in 8 bytes, the highest first, a byte that tells how long S is, and S. So a filter is told in one way only, in at most 1 byte and 60 for each condition.
package code

import (
	"strings"

	"trommel/api"
	"trommel/terms"
)

// Encode tells a filter as bytes.
func Encode(filter []api.Cond) (string, api.Errno) {
	if len(filter) > api.MaxConds {
		return "", api.ErrMany
	}
	told := []byte{byte(len(filter))}
	for _, c := range filter {
		if !canBeTold(c) {
			return "", api.ErrCond
		}
		told = append(told, byte(c.Attr), byte(c.Kind))
		told = appendValue(told, c.A)
		told = appendValue(told, c.B)
	}
	return string(told), api.OK
}

// canBeTold asks for less than a condition that may be needs: bytes are told without a schema.
func canBeTold(c api.Cond) bool {
	return c.Attr >= 0 && c.Attr < api.MaxAttrs && terms.KindMayBe(c.Kind) &&
		len(c.A.S) <= api.MaxWord && len(c.B.S) <= api.MaxWord
}

func appendValue(told []byte, v api.Value) []byte {
	for shift := 56; shift >= 0; shift -= 8 {
		told = append(told, byte(v.N>>shift))
	}
	told = append(told, byte(len(v.S)))
	return append(told, v.S...)
}

// Decode reads the filter of which Encode answers just these bytes. That is asked of Encode itself, and so reading need not look for faults: bytes that lack something, have too much or go beyond a bound are never those that Encode answers of what was read.
func Decode(told string) ([]api.Cond, api.Errno) {
	r := reader{left: told}
	filter := make([]api.Cond, min(r.number(1), api.MaxConds))
	for i := range filter {
		filter[i] = r.cond()
	}
	if again, no := Encode(filter); no != api.OK || again != told {
		return nil, api.ErrText
	}
	return filter, api.OK
}

// reader reads on from the first byte that is left.
type reader struct{ left string }

// take gives the next bytes, or as many as are left.
func (r *reader) take(size int) string {
	size = min(size, len(r.left))
	taken := r.left[:size]
	r.left = r.left[size:]
	return taken
}

func (r *reader) number(size int) uint64 {
	var n uint64
	for _, b := range []byte(r.take(size)) {
		n = n<<8 | uint64(b)
	}
	return n
}

func (r *reader) cond() api.Cond {
	attr, kind := int(r.number(1)), int(r.number(1))
	a, b := r.value(), r.value()
	return api.Cond{Attr: attr, Kind: kind, A: a, B: b}
}

// value copies the word, so that the answer shares no memory with the bytes that were handed in.
func (r *reader) value() api.Value {
	n := int64(r.number(8))
	size := int(r.number(1))
	return api.Value{N: n, S: strings.Clone(r.take(size))}
}
