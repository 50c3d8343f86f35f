package trommel_test

import (
	"math"
	"testing"

	"trommel/api"
)

func TestUnsubscribe(t *testing.T) {
	e := newEngine(t, api.Number)
	for _, id := range []int{5, 0, math.MaxInt, 9, 7} {
		subscribe(t, e, id)
	}
	for _, id := range []int{-1, 1, 6, 8, 10, math.MinInt, math.MaxInt - 1} {
		wantUnsubscribe(t, e, id, api.ErrNone)
	}
	wantMatch(t, e, nil, 0, 5, 7, 9, math.MaxInt)
	wantUnsubscribe(t, e, 7, api.OK)
	wantMatch(t, e, nil, 0, 5, 9, math.MaxInt)
	wantUnsubscribe(t, e, 7, api.ErrNone)
	wantUnsubscribe(t, e, 0, api.OK)
	wantUnsubscribe(t, e, math.MaxInt, api.OK)
	wantMatch(t, e, nil, 5, 9)
	wantUnsubscribe(t, e, 9, api.OK)
	wantUnsubscribe(t, e, 5, api.OK)
	wantMatch(t, e, nil)
	wantUnsubscribe(t, e, 5, api.ErrNone)
}

func TestUnsubscribeFreesTheNumber(t *testing.T) {
	e := newEngine(t, api.Number)
	subscribe(t, e, 3, cond(0, api.Is, num(1)))
	wantUnsubscribe(t, e, 3, api.OK)
	subscribe(t, e, 3, cond(0, api.Is, num(2)))
	wantMatch(t, e, event(field(0, num(1))))
	wantMatch(t, e, event(field(0, num(2))), 3)
}
