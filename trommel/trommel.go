// Package trommel: an engine that tells which filters an event meets: see DOC.md.
package trommel

import (
	"cmp"
	"slices"

	"trommel/api"
	"trommel/terms"
)

// Engine holds filters.
type Engine struct {
	schema []int
	// Rising by their numbers, so that answers need not be sorted.
	filters []subscription
}

type subscription struct {
	id     int
	filter []api.Cond
}

// New makes an engine without filters (P3).
func New(schema []int) (*Engine, api.Errno) {
	if !terms.SchemaMayBe(schema) {
		return nil, api.ErrSchema
	}
	return &Engine{schema: slices.Clone(schema)}, api.OK
}

// find gives the place at which the filter of that number is or would be, and whether it is there.
func (e *Engine) find(id int) (int, bool) {
	return slices.BinarySearchFunc(e.filters, id, func(s subscription, id int) int {
		return cmp.Compare(s.id, id)
	})
}

// Subscribe puts in a filter (P4).
func (e *Engine) Subscribe(id int, filter []api.Cond) (api.Errno, int) {
	if id < 0 {
		return api.ErrId, 0
	}
	place, found := e.find(id)
	if found {
		return api.ErrTwice, 0
	}
	if len(filter) > api.MaxConds {
		return api.ErrMany, 0
	}
	if at, bad := terms.BadCond(e.schema, filter); bad {
		return api.ErrCond, at
	}
	if len(e.filters) >= api.MaxFilters {
		return api.ErrFull, 0
	}
	e.filters = slices.Insert(e.filters, place, subscription{id, terms.CopyFilter(filter)})
	return api.OK, 0
}

// Unsubscribe takes one out (P5).
func (e *Engine) Unsubscribe(id int) api.Errno {
	place, found := e.find(id)
	if !found {
		return api.ErrNone
	}
	e.filters = slices.Delete(e.filters, place, place+1)
	return api.OK
}

// Match tells which filters an event meets (P6).
func (e *Engine) Match(event []api.Field) ([]int, api.Errno, int) {
	read, at, ok := terms.ReadEvent(e.schema, event)
	if !ok {
		return nil, api.ErrEvent, at
	}
	var met []int
	for _, s := range e.filters {
		if read.Meets(s.filter) {
			met = append(met, s.id)
		}
	}
	return met, api.OK, 0
}

// ByTree tells the same, by the tree alone (P7).
func (e *Engine) ByTree(event []api.Field) ([]int, api.Errno, int) { return nil, api.OK, 0 }

// ByCount tells the same, by the index that counts alone (P7).
func (e *Engine) ByCount(event []api.Field) ([]int, api.Errno, int) { return nil, api.OK, 0 }

// Batch matches several events (P8).
func (e *Engine) Batch(events [][]api.Field) ([][]int, api.Errno, int) { return nil, api.OK, 0 }

// Rebuild makes the tree anew (P9).
func (e *Engine) Rebuild(order []int) api.Errno { return api.OK }

// Stats tells how large the engine is (P10).
func (e *Engine) Stats() api.Stats { return api.Stats{} }

// Encode tells a filter as bytes (P11).
func Encode(filter []api.Cond) (string, api.Errno) { return "", api.OK }

// Decode reads them (P11).
func Decode(bytes string) ([]api.Cond, api.Errno) { return nil, api.OK }
