// Package trommel: an engine that tells which filters an event meets: see DOC.md.
package trommel

import (
	"cmp"
	"slices"
	"sync"
	"sync/atomic"

	"trommel/api"
	"trommel/code"
	"trommel/index"
	"trommel/terms"
	"trommel/tree"
)

// Engine holds filters.
type Engine struct {
	schema []int
	// Rising by their numbers, so that one is found quickly.
	filters []terms.Filter
	// In this order the tree's levels ask for the attributes.
	order []int
	tree  *lateTree
	index index.Index
	// How many events were matched.
	events atomic.Int64
}

// lateTree is a tree that is built when it is first asked. One that is to be made anew is laid aside for another.
type lateTree struct {
	once  sync.Once
	built *tree.Tree
}

// New makes an engine without filters (P3).
func New(schema []int) (*Engine, api.Errno) {
	if !terms.SchemaMayBe(schema) {
		return nil, api.ErrSchema
	}
	e := &Engine{schema: slices.Clone(schema), tree: &lateTree{}}
	for attr := range schema {
		e.order = append(e.order, attr)
	}
	return e, api.OK
}

// askTree gives the tree, and builds it if it has not been asked since it was to be made anew.
func (e *Engine) askTree() *tree.Tree {
	late := e.tree
	late.once.Do(func() { late.built = tree.Build(e.order, e.filters) })
	return late.built
}

// find gives the place at which the filter of that number is or would be, and whether it is there.
func (e *Engine) find(id int) (int, bool) {
	return slices.BinarySearchFunc(e.filters, id, func(f terms.Filter, id int) int {
		return cmp.Compare(f.Id, id)
	})
}

// Subscribe puts in a filter (P4).
func (e *Engine) Subscribe(id int, filter []api.Cond) (api.Errno, int) {
	if id < 0 {
		return api.ErrId, 0
	}
	place, found := e.find(id)
	if found {
		return api.ErrTwice, 0
	}
	if len(filter) > api.MaxConds {
		return api.ErrMany, 0
	}
	if at, bad := terms.BadCond(e.schema, filter); bad {
		return api.ErrCond, at
	}
	if len(e.filters) >= api.MaxFilters {
		return api.ErrFull, 0
	}
	kept := terms.NewFilter(id, filter)
	e.filters = slices.Insert(e.filters, place, kept)
	e.index.Add(kept)
	e.tree = &lateTree{}
	return api.OK, 0
}

// Unsubscribe takes one out (P5).
func (e *Engine) Unsubscribe(id int) api.Errno {
	place, found := e.find(id)
	if !found {
		return api.ErrNone
	}
	e.index.Remove(e.filters[place])
	e.filters = slices.Delete(e.filters, place, place+1)
	e.tree = &lateTree{}
	return api.OK
}

// Match tells which filters an event meets (P6). The tree tells it without going through all of them.
func (e *Engine) Match(event []api.Field) ([]int, api.Errno, int) {
	return e.answer(event, e.metByTree)
}

// ByTree tells the same, by the tree alone (P7).
func (e *Engine) ByTree(event []api.Field) ([]int, api.Errno, int) {
	return e.answer(event, e.metByTree)
}

// ByCount tells the same, by the index that counts alone (P7).
func (e *Engine) ByCount(event []api.Field) ([]int, api.Errno, int) {
	return e.answer(event, e.index.Met)
}

func (e *Engine) metByTree(event *terms.Event) []int {
	return e.askTree().Met(event)
}

// answer refuses an event that may not be, and tells of any other which filters it meets by the means that it is given.
func (e *Engine) answer(event []api.Field, met func(*terms.Event) []int) ([]int, api.Errno, int) {
	read, at, ok := terms.ReadEvent(e.schema, event)
	if !ok {
		return nil, api.ErrEvent, at
	}
	return e.counted(&read, met), api.OK, 0
}

// counted tells which filters an event meets, and counts it. The events of a batch come here side by side.
func (e *Engine) counted(event *terms.Event, met func(*terms.Event) []int) []int {
	e.events.Add(1)
	return met(event)
}

// Batch matches several events (P8). It reads all of them ahead, so that none is matched if one is refused.
func (e *Engine) Batch(events [][]api.Field) ([][]int, api.Errno, int) {
	if len(events) > api.MaxBatch {
		return nil, api.ErrMany, 0
	}
	read, at, ok := e.readAll(events)
	if !ok {
		return nil, api.ErrEvent, at
	}
	return e.matchAll(read), api.OK, 0
}

// readAll lays out a batch's events. If one may not be, it gives the number of the first such event and false.
func (e *Engine) readAll(events [][]api.Field) ([]terms.Event, int, bool) {
	all := make([]terms.Event, len(events))
	for i, fields := range events {
		read, _, ok := terms.ReadEvent(e.schema, fields)
		if !ok {
			return nil, i, false
		}
		all[i] = read
	}
	return all, 0, true
}

// matchAll has each event matched by a goroutine, which writes into no element but its own: so the answer is the same whichever is done first.
func (e *Engine) matchAll(events []terms.Event) [][]int {
	answers := make([][]int, len(events))
	var done sync.WaitGroup
	for i := range events {
		done.Go(func() { answers[i] = e.counted(&events[i], e.metByTree) })
	}
	done.Wait()
	return answers
}

// Rebuild makes the tree anew (P9).
func (e *Engine) Rebuild(order []int) api.Errno {
	if !terms.OrderMayBe(e.schema, order) {
		return api.ErrOrder
	}
	e.order = slices.Clone(order)
	e.tree = &lateTree{}
	return api.OK
}

// Stats tells how large the engine is (P10).
func (e *Engine) Stats() api.Stats {
	return api.Stats{
		Filters: len(e.filters),
		Nodes:   e.askTree().Nodes(),
		Events:  int(e.events.Load()),
	}
}

// Encode tells a filter as bytes (P11).
func Encode(filter []api.Cond) (string, api.Errno) { return code.Encode(filter) }

// Decode reads them (P11).
func Decode(bytes string) ([]api.Cond, api.Errno) { return code.Decode(bytes) }
