package tag

import (
	"math/rand"
	"strconv"
	"testing"

	"boscage/arena"
	"boscage/inner"
	"boscage/leaf"
	"boscage/ref"
	"boscage/seek"
	"boscage/world"
)

// tree is a node as it is to be made, with those below it; one without any below is a leaf, whose keys are its pairs'.
type tree struct {
	name   string // by which a touch of it is told
	keys   []int64
	below  []*tree
	tagged bool
	ref    ref.Ref
}

// lf is a leaf; its first key names it.
func lf(keys ...int64) *tree {
	return &tree{name: "L" + strconv.FormatInt(keys[0], 10), keys: keys}
}

// in is an inner node.
func in(name string, keys []int64, below ...*tree) *tree {
	return &tree{name: name, keys: keys, below: below}
}

// tg is a tagged one.
func tg(name string, keys []int64, below ...*tree) *tree {
	n := in(name, keys, below...)
	n.tagged = true
	return n
}

// ks are the keys between.
func ks(l ...int64) []int64 { return l }

// leaves are so many, each with one key, 10 above the one ahead, from a key on.
func leaves(from int64, n int) []*tree {
	var out []*tree
	for i := range int64(n) {
		out = append(out, lf(from+10*i))
	}
	return out
}

// wide is an inner node of leaves, with their own keys between.
func wide(name string, from int64, n int) *tree { return over(name, leaves(from, n)...) }

// over is an inner node of some trees; the first key of each, but the first's, stands ahead of it.
func over(name string, below ...*tree) *tree {
	out := &tree{name: name, below: below}
	for _, b := range below[1:] {
		out.keys = append(out.keys, b.first())
	}
	return out
}

func (n *tree) tag() *tree {
	n.tagged = true
	return n
}

// first is the first leaf's first key.
func (n *tree) first() int64 {
	for len(n.below) > 0 {
		n = n.below[0]
	}
	return n.keys[0]
}

// nodes are a tree's, each ahead of those below it.
func (n *tree) nodes() []*tree {
	out := []*tree{n}
	for _, b := range n.below {
		out = append(out, b.nodes()...)
	}
	return out
}

// node is what of it the arena is handed.
func (n *tree) node() arena.Node {
	out := arena.Node{Tagged: n.tagged}
	if len(n.below) == 0 {
		for _, k := range n.keys {
			out.Pairs = append(out.Pairs, leaf.Pair{Key: k})
		}
		return out
	}
	out.Inner = true
	out.Ways = inner.Inner{Keys: n.keys}
	for _, b := range n.below {
		out.Ways.Ways = append(out.Ways.Ways, b.ref)
	}
	return out
}

// plant puts a tree into a world, all below ahead of each, and notes the references in it.
func (n *tree) plant(t testing.TB, w *world.World) ref.Ref {
	t.Helper()
	for _, b := range n.below {
		b.plant(t, w)
	}
	r, ok := w.Arena.Alloc(n.node())
	if !ok {
		t.Fatal("P4.1: there is no room")
	}
	n.ref = r
	return r
}

// shape is what stands below a node, as a text: leaves by their first keys, in brackets the ways of an inner one, and the keys between; a star ahead of what is tagged.
func shape(w *world.World, r ref.Ref) string {
	n := w.Arena.Look(r)
	out := ""
	if n.Tagged {
		out = "*"
	}
	if !n.Inner {
		return out + "L" + strconv.FormatInt(n.Pairs[0].Key, 10)
	}
	out += "("
	for i := range n.Ways.Ways {
		if i > 0 {
			out += " " + strconv.FormatInt(n.Ways.Keys[i-1], 10) + " "
		}
		out += shape(w, w.Arena.Way(r, i))
	}
	return out + ")"
}

// whole is the shape of a world's tree.
func whole(w *world.World) string { return shape(w, w.Arena.Way(w.Entry, 0)) }

// where is the leaf that a key goes to, and how many inner nodes that aren't tagged are above it.
func where(w *world.World, key int64) (ref.Ref, int) {
	r, deep := w.Arena.Way(w.Entry, 0), 0
	for {
		n := w.Arena.Look(r)
		if !n.Inner {
			return r, deep
		}
		i := 0
		for i < len(n.Ways.Keys) && n.Ways.Keys[i] <= key {
			i++
		}
		if !n.Tagged {
			deep++
		}
		r = w.Arena.Way(r, i)
	}
}

// lies is which leaf each key of some goes to, by its first key; and that all of those leaves lie equally deep, but for tagged nodes.
func lies(t testing.TB, w *world.World, keys []int64) []int64 {
	t.Helper()
	var out []int64
	depth := -1
	for _, k := range keys {
		r, deep := where(w, k)
		if depth >= 0 && deep != depth {
			t.Fatalf("P12.1: leaves lie %d and %d deep in %s", depth, deep, whole(w))
		}
		depth = deep
		out = append(out, w.Arena.Look(r).Pairs[0].Key)
	}
	return out
}

// nearby are a tree's keys, and those beside them.
func (n *tree) nearby() []int64 {
	var out []int64
	for _, b := range n.nodes() {
		for _, k := range b.keys {
			out = append(out, k-1, k, k+1)
		}
	}
	return out
}

// someTree has so many levels, all leaves equally deep but for tagged nodes, and so many ways a node at most.
func someTree(r *rand.Rand, levels, most int) *tree {
	next := int64(0)
	n := someNode(r, levels, most, &next)
	if levels > 0 && r.Intn(4) == 0 {
		n.tagged = true
	}
	return n
}

func someNode(r *rand.Rand, levels, most int, next *int64) *tree {
	if levels == 0 {
		*next += 10
		return lf(*next)
	}
	return someInner(r, levels, 2+r.Intn(most-1), most, next)
}

func someInner(r *rand.Rand, levels, ways, most int, next *int64) *tree {
	n := &tree{}
	for i := range ways {
		if i > 0 {
			n.keys = append(n.keys, *next+1+r.Int63n(10))
		}
		if r.Intn(4) == 0 {
			// Those below a tagged node are as deep as those beside it.
			n.below = append(n.below, someInner(r, levels, 2, most, next).tag())
			continue
		}
		n.below = append(n.below, someNode(r, levels-1, most, next))
	}
	return n
}

// spot is where a node stands: the way down to it, and which way of the last one it is.
type spot struct {
	up     []seek.Step
	way    int
	ref    ref.Ref
	tagged bool
	below  bool // the one above it is tagged
	ways   int
}

func (s spot) fix() job { return fixJob(s.up, s.way, s.ref) }

// spots are those of all nodes, each ahead of those below it.
func spots(w *world.World) []spot { return spotsBelow(w, nil, w.Entry) }

func spotsBelow(w *world.World, up []seek.Step, r ref.Ref) []spot {
	var out []spot
	n := w.Arena.Look(r)
	for i := range n.Ways.Ways {
		s := spot{way: i, ref: w.Arena.Way(r, i), below: n.Tagged}
		s.up = append(append(s.up, up...), seek.Step{Ref: r, Node: n, Way: i})
		o := w.Arena.Look(s.ref)
		s.tagged, s.ways = o.Tagged, len(o.Ways.Ways)
		out = append(append(out, s), spotsBelow(w, s.up, s.ref)...)
	}
	return out
}
