package mend

import (
	"math"
	"math/rand"
	"slices"
	"strconv"
	"testing"

	"boscage/arena"
	"boscage/inner"
	"boscage/leaf"
	"boscage/ref"
	"boscage/seek"
	"boscage/world"
)

// tree is a node as it is to be made, with those below it; one without any below is a leaf, whose keys are its pairs'.
type tree struct {
	name   string // by which a touch of it is told
	keys   []int64
	below  []*tree
	tagged bool
	ref    ref.Ref
}

// lf is a leaf.
func lf(name string, keys ...int64) *tree { return &tree{name: name, keys: keys} }

// run is a leaf of so many keys, one behind the other.
func run(name string, from int64, n int) *tree {
	out := lf(name)
	for i := range int64(n) {
		out.keys = append(out.keys, from+i)
	}
	return out
}

// in is an inner node.
func in(name string, keys []int64, below ...*tree) *tree {
	return &tree{name: name, keys: keys, below: below}
}

// ks are the keys between.
func ks(l ...int64) []int64 { return l }

// over is an inner node of some trees; the first key of each, but the first's, stands ahead of it.
func over(name string, below ...*tree) *tree {
	out := in(name, nil, below...)
	for _, b := range below[1:] {
		out.keys = append(out.keys, b.first())
	}
	return out
}

// wide is an inner node of so many leaves, with two keys each, from a key on.
func wide(name string, from int64, n int) *tree {
	var l []*tree
	for i := range int64(n) {
		l = append(l, run("", from+10*i, 2))
	}
	return over(name, l...)
}

func (n *tree) tag() *tree {
	n.tagged = true
	return n
}

// first is the first leaf's first key.
func (n *tree) first() int64 {
	for len(n.below) > 0 {
		n = n.below[0]
	}
	return n.keys[0]
}

// nodes are a tree's, each ahead of those below it.
func (n *tree) nodes() []*tree {
	out := []*tree{n}
	for _, b := range n.below {
		out = append(out, b.nodes()...)
	}
	return out
}

func (n *tree) named(name string) *tree {
	for _, o := range n.nodes() {
		if o.name == name {
			return o
		}
	}
	return nil
}

// size is how many entries a node has.
func (n *tree) size() int {
	if len(n.below) > 0 {
		return len(n.below)
	}
	return len(n.keys)
}

// valueOf is the value with which each key stands there at first.
func valueOf(key int64) int64 { return 7*key + 1 }

func pairsOf(keys []int64) leaf.Leaf {
	var out leaf.Leaf
	for _, k := range keys {
		out = append(out, leaf.Pair{Key: k, Value: valueOf(k)})
	}
	return out
}

// node is what of it the arena is handed.
func (n *tree) node() arena.Node {
	if len(n.below) == 0 {
		return arena.Node{Tagged: n.tagged, Pairs: pairsOf(n.keys)}
	}
	out := arena.Node{Inner: true, Tagged: n.tagged, Ways: inner.Inner{Keys: n.keys}}
	for _, b := range n.below {
		out.Ways.Ways = append(out.Ways.Ways, b.ref)
	}
	return out
}

// plant puts a tree into a world, all below ahead of each, and notes the references in it.
func (n *tree) plant(t testing.TB, w *world.World) ref.Ref {
	t.Helper()
	for _, b := range n.below {
		b.plant(t, w)
	}
	r, ok := w.Arena.Alloc(n.node())
	if !ok {
		t.Fatal("P4.1: there is no room")
	}
	n.ref = r
	return r
}

// shape is what stands below a node, as a text: a leaf's keys; in brackets the ways of an inner one, and the keys between; a star ahead of what is tagged.
func shape(w *world.World, r ref.Ref) string {
	n := w.Arena.Look(r)
	out := ""
	if n.Tagged {
		out = "*"
	}
	if !n.Inner {
		return out + leafShape(n.Pairs)
	}
	out += "("
	for i := range n.Ways.Ways {
		if i > 0 {
			out += " " + strconv.FormatInt(n.Ways.Keys[i-1], 10) + " "
		}
		out += shape(w, w.Arena.Way(r, i))
	}
	return out + ")"
}

func leafShape(l leaf.Leaf) string {
	out := "["
	for i, p := range l {
		if i > 0 {
			out += " "
		}
		out += strconv.FormatInt(p.Key, 10)
	}
	return out + "]"
}

// whole is the shape of a world's tree.
func whole(w *world.World) string { return shape(w, w.Arena.Way(w.Entry, 0)) }

// where is the leaf that a key goes to, and how many inner nodes that aren't tagged are above it.
func where(w *world.World, key int64) (arena.Node, int) {
	r, deep := w.Arena.Way(w.Entry, 0), 0
	for {
		n := w.Arena.Look(r)
		if !n.Inner {
			return n, deep
		}
		i := 0
		for i < len(n.Ways.Keys) && n.Ways.Keys[i] <= key {
			i++
		}
		if !n.Tagged {
			deep++
		}
		r = w.Arena.Way(r, i)
	}
}

// found is what each key of some is found with (0: it isn't there), and how deep the leaves lie, where all lie equally deep; -1, if they don't.
func found(w *world.World, keys []int64) ([]int64, int) {
	var out []int64
	depth := 0
	for i, k := range keys {
		n, deep := where(w, k)
		if i == 0 {
			depth = deep
		}
		if deep != depth {
			depth = -1
		}
		value := int64(0)
		for _, p := range n.Pairs {
			if p.Key == k {
				value = p.Value
			}
		}
		out = append(out, value)
	}
	return out, depth
}

// nearby are a tree's keys, and those beside them, rising: at least one that goes to each leaf.
func (n *tree) nearby() []int64 {
	out := []int64{math.MinInt64}
	for _, b := range n.nodes() {
		for _, k := range b.keys {
			out = append(out, k-1, k, k+1)
		}
	}
	slices.Sort(out)
	return slices.Compact(out)
}

// spot is where a node stands: the way down to it, and which way of the last one it is.
type spot struct {
	up   []seek.Step
	way  int
	ref  ref.Ref
	node arena.Node
}

// spots are those of all nodes, each ahead of those below it.
func spots(w *world.World) []spot { return spotsBelow(w, nil, w.Entry) }

func spotsBelow(w *world.World, up []seek.Step, r ref.Ref) []spot {
	var out []spot
	n := w.Arena.Look(r)
	for i := range n.Ways.Ways {
		s := spot{way: i, ref: w.Arena.Way(r, i)}
		s.up = append(append(s.up, up...), seek.Step{Ref: r, Node: n, Way: i})
		s.node = w.Arena.Look(s.ref)
		out = append(append(out, s), spotsBelow(w, s.up, s.ref)...)
	}
	return out
}

// few: is it a node with too few entries, and not tagged?
func few(a int, n arena.Node, isRoot bool) bool {
	if n.Tagged {
		return false
	}
	if isRoot {
		return n.Inner && len(n.Ways.Ways) < 2
	}
	return n.Inner && len(n.Ways.Ways) < a || !n.Inner && len(n.Pairs) < a
}

// grower makes trees of all kinds, all leaves equally deep but for tagged nodes.
type grower struct {
	r    *rand.Rand
	a, b int
	tags bool // may nodes be tagged
	next int64
}

// someTree has so many levels.
func (g *grower) someTree(levels int) *tree {
	if levels == 0 {
		return g.someLeaf(g.r.Intn(g.b + 1))
	}
	// The root may have one way.
	return g.someInner(levels, 1+g.r.Intn(g.b))
}

func (g *grower) someLeaf(n int) *tree {
	out := lf("")
	if n == 0 {
		// So that some key goes to it.
		g.next++
	}
	for range n {
		g.next += 1 + g.r.Int63n(4)
		out.keys = append(out.keys, g.next)
	}
	return out
}

// some is how many entries a node has; too few quite often, one inner way at least.
func (g *grower) some(least int) int {
	if g.r.Intn(2) == 0 {
		return least + g.r.Intn(g.a-least)
	}
	return g.a + g.r.Intn(g.b-g.a+1)
}

func (g *grower) someNode(levels int) *tree {
	if levels == 0 {
		return g.someLeaf(g.some(0))
	}
	return g.someInner(levels, g.some(1))
}

func (g *grower) someInner(levels, ways int) *tree {
	n := in("", nil)
	for i := range ways {
		if i > 0 {
			g.next += 1 + g.r.Int63n(4)
			n.keys = append(n.keys, g.next)
			g.next--
		}
		if g.tags && g.r.Intn(6) == 0 {
			// Those below a tagged node are as deep as those beside it.
			n.below = append(n.below, g.someInner(levels, 2).tag())
			continue
		}
		n.below = append(n.below, g.someNode(levels-1))
	}
	return n
}
