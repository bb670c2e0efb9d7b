package seek

import (
	"fmt"
	"math"
	"testing"

	"boscage/api"
	"boscage/arena"
	"boscage/inner"
	"boscage/leaf"
	"boscage/ref"
	"boscage/thread"
	"boscage/world"
)

// tree is a node as it is to be made, with those below it; one without any below is a leaf.
type tree struct {
	keys   []int64
	below  []tree
	tagged bool
	ref    ref.Ref
}

// lf is a leaf, named by a key that it has.
func lf(name int64) tree { return tree{keys: []int64{name}} }

// in is an inner node.
func in(keys []int64, below ...tree) tree { return tree{keys: keys, below: below} }

// between are keys, such that a tree's own words for them stay short.
func between(l ...int64) []int64 { return l }

// plant puts a tree into a world, all below ahead of each, and notes the references in it.
func plant(t testing.TB, w *world.World, n *tree) ref.Ref {
	t.Helper()
	node := arena.Node{Tagged: n.tagged}
	if len(n.below) == 0 {
		for _, k := range n.keys {
			node.Pairs = append(node.Pairs, leaf.Pair{Key: k, Value: -k})
		}
	} else {
		node.Inner = true
		node.Ways = inner.Inner{Keys: n.keys}
		for i := range n.below {
			node.Ways.Ways = append(node.Ways.Ways, plant(t, w, &n.below[i]))
		}
	}
	n.ref = put(t, w, node)
	return n.ref
}

// put is one node more.
func put(t testing.TB, w *world.World, n arena.Node) ref.Ref {
	t.Helper()
	r, ok := w.Arena.Alloc(n)
	if !ok {
		t.Fatal("P4.1: there is no room")
	}
	return r
}

// empty is a world that is new.
func empty(t testing.TB, nodes int) *world.World {
	t.Helper()
	w, e := world.New(2, 3, 3, nodes, 9)
	if e != api.OK {
		t.Fatalf("P8.1: New is %d", e)
	}
	return w
}

// grown is a world whose root is a tree.
func grown(t testing.TB, n *tree) *world.World {
	t.Helper()
	w := empty(t, 60000)
	leads(t, w, w.Entry, 0, plant(t, w, n))
	return w
}

// leads makes a way go to another node.
func leads(t testing.TB, w *world.World, r ref.Ref, way int, to ref.Ref) {
	t.Helper()
	if !w.Arena.SwapWay(r, way, w.Arena.Way(r, way), to) {
		t.Fatalf("P4.2: node %d has no way %d", r, way)
	}
}

// wayOf is chapter 3's word for which way a key goes, the keys being counted one by one.
func wayOf(keys []int64, k int64) int {
	n := 0
	for _, key := range keys {
		if key <= k {
			n++
		}
	}
	return n
}

// down is the path that a tree has for a key, reckoned from the tree alone.
func down(w *world.World, n tree, k int64) []Step {
	out := []Step{{Ref: w.Entry, Node: w.Arena.Look(w.Entry)}}
	for len(n.below) > 0 {
		i := wayOf(n.keys, k)
		out = append(out, Step{Ref: n.ref, Node: w.Arena.Look(n.ref), Way: i})
		n = n.below[i]
	}
	return append(out, Step{Ref: n.ref, Node: w.Arena.Look(n.ref)})
}

// twin is a seeker as the chapter's words say it, in the same world, which a seeker doesn't change: each step does the next touch.
type twin struct {
	w    *world.World
	key  int64
	path []Step
}

func newTwin(w *world.World, key int64) *twin {
	p := &twin{w: w, key: key}
	p.look(w.Entry)
	return p
}

func (p *twin) look(r ref.Ref) {
	s := Step{Ref: r, Node: p.w.Arena.Look(r)}
	if s.Node.Inner {
		s.Way = wayOf(s.Node.Ways.Keys, p.key)
	}
	p.path = append(p.path, s)
}

func (p *twin) last() Step { return p.path[len(p.path)-1] }

// step: is it at its end behind that?
func (p *twin) step() bool {
	s := p.last()
	if !s.Node.Inner {
		return true
	}
	p.look(p.w.Arena.Way(s.Ref, s.Way))
	return !p.last().Node.Inner
}

// touches are as many as the path has inner nodes.
func (p *twin) touches() int {
	n := 0
	for _, s := range p.path {
		if s.Node.Inner {
			n++
		}
	}
	return n
}

// seeker is a thread that looks for a key: by Path, or by Leaf.
type seeker struct {
	*thread.Thread
	path []Step
	two  [2]Step
}

func byPath(w *world.World, key int64) *seeker {
	s := &seeker{}
	s.Thread = thread.New(func(x *thread.Thread) []int64 {
		s.path = Path(world.Task{Thread: x, World: w}, key)
		return nil
	})
	return s
}

func byLeaf(w *world.World, key int64) *seeker {
	s := &seeker{}
	s.Thread = thread.New(func(x *thread.Thread) []int64 {
		s.two[0], s.two[1] = Leaf(world.Task{Thread: x, World: w}, key)
		return nil
	})
	return s
}

// run goes on to the end.
func (s *seeker) run(t testing.TB) *seeker {
	t.Helper()
	for range 5000 {
		if s.Step() {
			return s
		}
	}
	t.Fatal("P1: no end")
	return nil
}

func tell(l ...any) string { return fmt.Sprintf("%+v", l) }

// samePath: a path with no steps is nil or empty (R5).
func samePath(a, b []Step) bool {
	if len(a) != len(b) {
		return false
	}
	for i := range a {
		if !sameStep(a[i], b[i]) {
			return false
		}
	}
	return true
}

func sameStep(a, b Step) bool {
	return a.Ref == b.Ref && a.Way == b.Way && tell(a.Node) == tell(b.Node)
}

// short is a path in few words: each node, and its way.
func short(l []Step) string {
	out := ""
	for _, s := range l {
		out += fmt.Sprintf(" %x:%d", int64(s.Ref), s.Way)
		if !s.Node.Inner {
			out += fmt.Sprint(s.Node.Pairs)
		}
	}
	return out
}

// dump is all of a world that may change.
func dump(w *world.World) string {
	out := fmt.Sprint(w.Arena.Used(), w.Arena.Faults(), w.Records.Len(), w.Epochs.Now(), w.Epochs.Limbo(), w.A, w.B, w.Entry)
	for i := range w.Epochs.Len() {
		out += fmt.Sprint(" ", w.Epochs.Said(i))
	}
	for i := range w.Arena.Used() {
		r := ref.Of(i, 1)
		n := w.Arena.Look(r)
		out += fmt.Sprintf(" | %+v %d %t", n, w.Arena.Info(r), w.Arena.Mark(r))
		for k := range n.Ways.Ways {
			out += fmt.Sprint(" ", w.Arena.Way(r, k))
		}
	}
	return out
}

// nearby are keys at which something could be amiss, with both ends of the numbers.
func nearby(keys ...int64) []int64 {
	out := []int64{math.MinInt64, math.MinInt64 + 1, -1, 0, 1, math.MaxInt64 - 1, math.MaxInt64}
	for _, k := range keys {
		out = append(out, k)
		if k > math.MinInt64 {
			out = append(out, k-1)
		}
		if k < math.MaxInt64 {
			out = append(out, k+1)
		}
	}
	return out
}

// keysOf are all of a tree's.
func keysOf(n tree) []int64 {
	out := append([]int64(nil), n.keys...)
	for _, b := range n.below {
		out = append(out, keysOf(b)...)
	}
	return out
}
