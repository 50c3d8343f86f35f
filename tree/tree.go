// Package tree: a tree of filters, in which those that ask the same go one way together.
package tree

import (
	"cmp"
	"slices"

	"trommel/api"
	"trommel/terms"
)

// Tree asks on each of its levels for one attribute.
type Tree struct {
	order []int
	root  *node
	nodes int
}

type node struct {
	// The filters of which all conditions were asked on the way here.
	ids []int
	// Rising; no two of them ask the same.
	edges []edge
}

type edge struct {
	asks  ask
	conds []api.Cond
	to    *node
}

// ask is what an edge asks of an event's value of the level's attribute.
type ask int

// They are counted in the order in which edges stand at a node: without a value only the first can be gone, and of the last, which rise by A, none behind the value.
const (
	nothing ask = iota // there need not be a value
	each               // it meets each of the conditions
	exactly            // it is A of the only condition
)

// Build makes a tree whose levels ask for the attributes in the given order.
func Build(order []int, filters []terms.Filter) *Tree {
	t := &Tree{order: slices.Clone(order), root: &node{}, nodes: 1}
	for _, f := range filters {
		t.put(f)
	}
	return t
}

// Nodes tells how many nodes the tree has.
func (t *Tree) Nodes() int { return t.nodes }

// put lays a filter at the end of its way, which goes no deeper than its conditions do.
func (t *Tree) put(f terms.Filter) {
	at, left := t.root, len(f.Conds)
	for _, attr := range t.order {
		if left == 0 {
			break
		}
		conds := f.On(attr)
		left -= len(conds)
		at = t.step(at, conds)
	}
	at.ids = append(at.ids, f.Id)
}

// step gives the node to which the edge with these conditions leads, and makes both if they are not there.
func (t *Tree) step(from *node, conds []api.Cond) *node {
	way := edge{asks: askOf(conds), conds: conds}
	place, found := slices.BinarySearchFunc(from.edges, way, compareEdges)
	if !found {
		way.to = &node{}
		t.nodes++
		from.edges = slices.Insert(from.edges, place, way)
	}
	return from.edges[place].to
}

func askOf(conds []api.Cond) ask {
	switch {
	case len(conds) == 0:
		return nothing
	case len(conds) == 1 && conds[0].Kind == api.Is:
		return exactly
	}
	return each
}

func compareEdges(x, y edge) int {
	return cmp.Or(cmp.Compare(x.asks, y.asks), slices.CompareFunc(x.conds, y.conds, terms.CompareConds))
}

// Met gives the numbers of the filters that an event meets, rising.
func (t *Tree) Met(event *terms.Event) []int {
	met := slices.Clone(t.root.ids)
	front := []*node{t.root}
	for _, attr := range t.order {
		front = reached(front, event, attr)
		for _, n := range front {
			met = append(met, n.ids...)
		}
	}
	slices.Sort(met)
	return met
}

// reached gives the nodes of the next level to which an event comes from those of a level that asks for attr.
func reached(front []*node, event *terms.Event, attr int) []*node {
	x, has := event.Value(attr)
	var next []*node
	for _, n := range front {
	edges:
		for _, way := range n.edges {
			if way.asks != nothing && !has {
				break edges
			}
			switch way.asks {
			case each:
				for _, c := range way.conds {
					if !terms.Holds(c, x) {
						continue edges
					}
				}
			case exactly:
				side := terms.Compare(way.conds[0].A, x)
				if side < 0 {
					continue edges
				}
				if side > 0 {
					break edges
				}
			}
			next = append(next, way.to)
		}
	}
	return next
}
