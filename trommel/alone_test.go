package trommel

import (
	"runtime"
	"slices"
	"sync"
	"testing"
	"time"

	"trommel/api"
	"trommel/index"
	"trommel/tree"
)

func oneFilter(t *testing.T) (*Engine, []api.Field) {
	t.Helper()
	e, _ := New([]int{api.Number, api.Word})
	if no, _ := e.Subscribe(5, []api.Cond{{Kind: api.Is, A: api.Value{N: 1}}}); no != api.OK {
		t.Fatal(no)
	}
	return e, []api.Field{{V: api.Value{N: 1}}}
}

// The tree answers though there is nothing in the index, nor among the filters any more.
func TestByTreeAlone(t *testing.T) {
	e, event := oneFilter(t)
	e.askTree()
	e.index, e.filters = index.Index{}, nil
	if ids, _, _ := e.ByTree(event); !slices.Equal(ids, []int{5}) {
		t.Errorf("P7: ByTree = %v", ids)
	}
}

// The index answers though there is no tree, and no filter to build it of.
func TestByCountAlone(t *testing.T) {
	e, event := oneFilter(t)
	e.tree, e.filters = nil, nil
	if ids, _, _ := e.ByCount(event); !slices.Equal(ids, []int{5}) {
		t.Errorf("P7: ByCount = %v", ids)
	}
}

func TestTreeIsBuiltWhenFirstAsked(t *testing.T) {
	e, event := oneFilter(t)
	e.ByCount(event)
	e.ByTree([]api.Field{{Attr: 9}})
	e.Batch([][]api.Field{event, {{Attr: 9}}})
	e.Batch(make([][]api.Field, api.MaxBatch+1))
	if e.tree.built != nil {
		t.Fatal("the tree was built ahead of being asked")
	}
	e.ByTree(event)
	built := e.tree.built
	if built == nil {
		t.Fatal("the tree was asked, and not built")
	}
	e.ByTree(event)
	e.Batch([][]api.Field{event, event})
	e.Stats()
	e.Rebuild([]int{0, 0})
	e.Unsubscribe(6)
	e.Subscribe(5, nil)
	if e.tree.built != built {
		t.Fatal("the tree was built twice")
	}
}

func TestTreeIsMadeAnew(t *testing.T) {
	e, _ := oneFilter(t)
	for _, change := range []func() api.Errno{
		func() api.Errno { no, _ := e.Subscribe(6, nil); return no },
		func() api.Errno { return e.Unsubscribe(6) },
		func() api.Errno { return e.Rebuild([]int{1, 0}) },
	} {
		built := e.askTree()
		if no := change(); no != api.OK {
			t.Fatal(no)
		}
		if e.askTree() == built {
			t.Error("the tree was not made anew")
		}
	}
}

func TestTreeIsBuiltOnce(t *testing.T) {
	e, _ := oneFilter(t)
	trees := make([]*tree.Tree, 20)
	var done sync.WaitGroup
	for i := range trees {
		done.Go(func() { trees[i] = e.askTree() })
	}
	done.Wait()
	for _, other := range trees {
		if other != trees[0] {
			t.Fatal("the tree was built twice")
		}
	}
}

// While the tree is held up, all events of a batch come as far as to ask it: none waits for another to be done.
func TestBatchHasAGoroutineForEachEvent(t *testing.T) {
	e, event := oneFilter(t)
	ready := e.askTree()
	late := &lateTree{}
	e.tree = late
	held, letGo, answered := make(chan int), make(chan int), make(chan [][]int)
	go late.once.Do(func() {
		close(held)
		<-letGo
		late.built = ready
	})
	<-held
	go func() {
		answers, _, _ := e.Batch(slices.Repeat([][]api.Field{event}, api.MaxBatch))
		answered <- answers
	}()
	for end := time.Now().Add(10 * time.Second); e.events.Load() < api.MaxBatch; runtime.Gosched() {
		if time.Now().After(end) {
			t.Fatalf("%d events are matched side by side", e.events.Load())
		}
	}
	select {
	case answers := <-answered:
		t.Fatalf("P8: Batch answered ahead of its goroutines: %v", answers)
	default:
	}
	close(letGo)
	for i, ids := range <-answered {
		if !slices.Equal(ids, []int{5}) {
			t.Errorf("P8: event %d: %v", i, ids)
		}
	}
}
