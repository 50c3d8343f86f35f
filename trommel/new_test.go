package trommel_test

import (
	"math"
	"testing"

	"trommel/api"
	"trommel/trommel"
)

func TestNewRefusesSchemas(t *testing.T) {
	for _, schema := range [][]int{
		nil,
		{},
		{0},
		{3},
		{-1},
		{math.MaxInt},
		{math.MinInt},
		{1, 2, 0},
		{3, 1, 2},
		{1, 2, 1, 2, 1, 3},
		{1, 2, 1, 2, 1, 2, 1},
		make([]int, 1_000_000),
	} {
		if e, no := trommel.New(schema); e != nil || no != api.ErrSchema {
			t.Errorf("P3: New of %d types = %v, %d, want nil, ErrSchema", len(schema), e, no)
		}
	}
}

func TestNewTakesSchemas(t *testing.T) {
	for _, schema := range [][]int{
		{api.Number},
		{api.Word},
		{api.Word, api.Word},
		{api.Number, api.Word, api.Number},
		{api.Word, api.Word, api.Number, api.Number},
		{1, 1, 1, 1, 1},
		{2, 1, 2, 1, 2, 1},
	} {
		e := newEngine(t, schema...)
		wantMatch(t, e, nil)
		for _, id := range edgeNumbers() {
			wantUnsubscribe(t, e, id, api.ErrNone)
		}
		last := len(schema) - 1
		subscribe(t, e, 0, cond(last, api.Has, api.Value{}))
		wantSubscribe(t, e, 1, []api.Cond{cond(last+1, api.Has, api.Value{})}, api.ErrCond, 0)
		wantMatch(t, e, event(field(last, api.Value{})), 0)
		wantRefused(t, e, event(field(last+1, api.Value{})), 0)
	}
}
