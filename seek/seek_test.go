package seek

import (
	"math"
	"math/rand"
	"slices"
	"testing"

	"boscage/arena"
	"boscage/inner"
	"boscage/leaf"
	"boscage/ref"
	"boscage/thread"
	"boscage/world"
)

func TestExample(t *testing.T) {
	w := empty(t, 9)
	want := []Step{
		{Ref: ref.Of(1, 1), Node: arena.Node{Inner: true, Ways: inner.Inner{Ways: []ref.Ref{ref.Of(0, 1)}}}},
		{Ref: ref.Of(0, 1)},
	}
	for _, k := range nearby() {
		if s := byPath(w, k).run(t); !samePath(s.path, want) || s.Steps() != 1 {
			t.Errorf("P11.1: Path of %d is%s behind %d touches, not%s behind 1", k, short(s.path), s.Steps(), short(want))
		}
		if s := byLeaf(w, k).run(t); !samePath(s.two[:], want) || s.Steps() != 1 {
			t.Errorf("P11.1: Leaf of %d is%s behind %d touches, not%s behind 1", k, short(s.two[:]), s.Steps(), short(want))
		}
	}
}

// three has three levels below the entry's way, with nodes of one, two, three and four ways.
func three() tree {
	return in(between(10, 20),
		in(between(5), lf(1), lf(5)),
		in(between(12, 15, 18), lf(11), lf(12), lf(16), lf(19)),
		in(nil, lf(20)))
}

// uneven has leaves that don't lie equally deep, and tagged nodes.
func uneven() tree {
	n := in(between(-7, 7),
		lf(-9),
		in(between(0), in(between(-3), lf(-5), lf(-1)), lf(2)),
		in(between(8, 9), lf(7), in(between(8), lf(0), in(nil, lf(8))), lf(10)))
	n.below[1].tagged = true
	n.below[2].below[1].below[1].below[0].tagged = true
	return n
}

// ends has the least and the greatest number as keys.
func ends() tree {
	return in(between(math.MinInt64, math.MinInt64+1, 0, math.MaxInt64-1, math.MaxInt64), lf(1), lf(2), lf(3), lf(4), lf(5), lf(6))
}

// TestPathByHand: which ways, and which leaf, by hand.
func TestPathByHand(t *testing.T) {
	for _, c := range []struct {
		tree tree
		key  int64
		ways []int // the entry's ahead, the leaf's behind
		name int64 // the leaf's key
	}{
		{lf(4), 4, []int{0, 0}, 4},
		{in(nil, lf(4)), 9, []int{0, 0, 0}, 4},
		{in(between(5), lf(1), lf(2)), 4, []int{0, 0, 0}, 1},
		{in(between(5), lf(1), lf(2)), 5, []int{0, 1, 0}, 2},
		{in(between(5), lf(1), lf(2)), 6, []int{0, 1, 0}, 2},
		{three(), math.MinInt64, []int{0, 0, 0, 0}, 1},
		{three(), 4, []int{0, 0, 0, 0}, 1},
		{three(), 5, []int{0, 0, 1, 0}, 5},
		{three(), 9, []int{0, 0, 1, 0}, 5},
		{three(), 10, []int{0, 1, 0, 0}, 11},
		{three(), 11, []int{0, 1, 0, 0}, 11},
		{three(), 12, []int{0, 1, 1, 0}, 12},
		{three(), 14, []int{0, 1, 1, 0}, 12},
		{three(), 15, []int{0, 1, 2, 0}, 16},
		{three(), 17, []int{0, 1, 2, 0}, 16},
		{three(), 18, []int{0, 1, 3, 0}, 19},
		{three(), 19, []int{0, 1, 3, 0}, 19},
		{three(), 20, []int{0, 2, 0, 0}, 20},
		{three(), math.MaxInt64, []int{0, 2, 0, 0}, 20},
		{uneven(), -8, []int{0, 0, 0}, -9},
		{uneven(), -7, []int{0, 1, 0, 0, 0}, -5},
		{uneven(), -3, []int{0, 1, 0, 1, 0}, -1},
		{uneven(), 0, []int{0, 1, 1, 0}, 2},
		{uneven(), 7, []int{0, 2, 0, 0}, 7},
		{uneven(), 8, []int{0, 2, 1, 1, 0, 0}, 8},
		{uneven(), 9, []int{0, 2, 2, 0}, 10},
		{ends(), math.MinInt64, []int{0, 1, 0}, 2},
		{ends(), math.MinInt64 + 1, []int{0, 2, 0}, 3},
		{ends(), -1, []int{0, 2, 0}, 3},
		{ends(), 0, []int{0, 3, 0}, 4},
		{ends(), math.MaxInt64 - 2, []int{0, 3, 0}, 4},
		{ends(), math.MaxInt64 - 1, []int{0, 4, 0}, 5},
		{ends(), math.MaxInt64, []int{0, 5, 0}, 6},
		{in(between(math.MaxInt64), lf(1), lf(2)), math.MaxInt64 - 1, []int{0, 0, 0}, 1},
		{in(between(math.MinInt64), lf(1), lf(2)), math.MinInt64, []int{0, 1, 0}, 2},
	} {
		s := byPath(grown(t, &c.tree), c.key).run(t)
		var ways []int
		for _, step := range s.path {
			ways = append(ways, step.Way)
		}
		if !slices.Equal(ways, c.ways) || s.Steps() != len(c.ways)-1 {
			t.Errorf("P11.1: Path of %d goes %v behind %d touches, not %v behind %d", c.key, ways, s.Steps(), c.ways, len(c.ways)-1)
		} else if last := s.path[len(ways)-1].Node; last.Inner || len(last.Pairs) != 1 || last.Pairs[0].Key != c.name {
			t.Errorf("P11.1: Path of %d comes to %v, not to leaf %d", c.key, last.Pairs, c.name)
		}
	}
}

// holdAll holds Path and Leaf of all keys nearby against the tree.
func holdAll(t *testing.T, n tree) {
	t.Helper()
	w := grown(t, &n)
	all := dump(w)
	for _, k := range nearby(keysOf(n)...) {
		want := down(w, n, k)
		if s := byPath(w, k).run(t); !samePath(s.path, want) || s.Steps() != len(want)-1 {
			t.Fatalf("P11.1: of %+v Path of %d is%s behind %d touches, not%s behind %d", n, k, short(s.path), s.Steps(), short(want), len(want)-1)
		}
		if s := byLeaf(w, k).run(t); !samePath(s.two[:], want[len(want)-2:]) || s.Steps() != len(want)-1 {
			t.Fatalf("P11.1: of %+v Leaf of %d is%s behind %d touches, not the last two of%s behind %d", n, k, short(s.two[:]), s.Steps(), short(want), len(want)-1)
		}
	}
	if dump(w) != all {
		t.Fatalf("P11.1: of %+v Path or Leaf changed something:\n%s\n%s", n, all, dump(w))
	}
}

func TestTrees(t *testing.T) {
	for _, n := range []tree{lf(0), {}, in(nil, lf(3)), in(nil, in(nil, in(nil, lf(3)))), three(), uneven(), ends()} {
		holdAll(t, n)
	}
}

// TestWideNodes: from one way on to more than a node may have, with keys on both sides of 0.
func TestWideNodes(t *testing.T) {
	for ways := 1; ways <= 40; ways++ {
		var n tree
		for i := range ways {
			n.below = append(n.below, lf(int64(i)))
			if i > 0 {
				n.keys = append(n.keys, int64(3*(i-ways/2)))
			}
		}
		holdAll(t, n)
	}
}

// someTree has keys that rise, from lo up to below hi, and so many levels at most.
func someTree(r *rand.Rand, levels int, lo, hi int64) tree {
	if levels == 0 || r.Intn(6) == 0 {
		return tree{keys: between(lo), tagged: r.Intn(4) == 0}
	}
	var n tree
	n.tagged = r.Intn(4) == 0
	at := lo
	for range 1 + r.Intn(5) {
		to := at + 1 + r.Int63n(max((hi-at)/3, 1))
		if to >= hi {
			break
		}
		n.below = append(n.below, someTree(r, levels-1, at, to))
		n.keys = append(n.keys, to)
		at = to
	}
	n.below = append(n.below, someTree(r, levels-1, at, hi))
	return n
}

func TestSomeTrees(t *testing.T) {
	r := rand.New(rand.NewSource(11))
	for i := range 60 {
		holdAll(t, someTree(r, i%5, -500, 500))
	}
}

func TestDeepTree(t *testing.T) {
	n := lf(0)
	for i := range 60 {
		k := int64(60 - i)
		if i%2 == 0 {
			n = in(between(k), n, lf(1000+k))
		} else {
			n = in(between(-k), lf(1000+k), n)
		}
	}
	holdAll(t, n)
}

// TestNodesAsHandedIn: a path's nodes are as they were made, its way is as it is then; who is at a node, and whether it goes, isn't asked.
func TestNodesAsHandedIn(t *testing.T) {
	n, other := three(), in(between(30), lf(31), lf(32))
	w := grown(t, &n)
	plant(t, w, &other)
	leads(t, w, n.ref, 1, other.ref)
	for _, r := range []ref.Ref{w.Entry, n.ref, other.ref, other.below[1].ref} {
		w.Arena.SetMark(r)
		w.Arena.SwapInfo(r, 0, 77)
	}
	s := byPath(w, 15).run(t)
	if s.Steps() != 3 || len(s.path) != 4 || s.path[2].Ref != other.ref || s.path[3].Ref != other.below[0].ref {
		t.Fatalf("P11.1: Path is%s behind %d touches", short(s.path), s.Steps())
	}
	if ways := s.path[1].Node.Ways.Ways; !slices.Equal(ways, []ref.Ref{n.below[0].ref, n.below[1].ref, n.below[2].ref}) {
		t.Errorf("P11.1: the root's ways are told as %v", ways)
	}
	if got := s.path[0].Node.Ways.Ways; !slices.Equal(got, []ref.Ref{ref.Of(0, 1)}) {
		t.Errorf("P11.1: the entry's way is told as %v", got)
	}
}

// TestWayChangedByHand: a way that goes to another tree from ahead of a touch on: the first touch is the entry's, the second the root's, the third that of the node below.
func TestWayChangedByHand(t *testing.T) {
	for level := range 3 {
		for ahead := range 4 {
			n, other := three(), lf(99)
			w := grown(t, &n)
			plant(t, w, &other)
			want := down(w, n, 12)
			// The touch of a level is the one behind as many others.
			if ahead <= level {
				want = append(want[:level+1], Step{Ref: other.ref, Node: w.Arena.Look(other.ref)})
			}
			p, l := byPath(w, 12), byLeaf(w, 12)
			for range ahead {
				p.Step()
				l.Step()
			}
			from := []ref.Ref{w.Entry, n.ref, n.below[1].ref}[level]
			leads(t, w, from, []int{0, 1, 1}[level], other.ref)
			p.run(t)
			l.run(t)
			if !samePath(p.path, want) || p.Steps() != len(want)-1 {
				t.Errorf("P11.1: way %d changed ahead of touch %d: Path is%s behind %d touches, not%s behind %d", level, ahead, short(p.path), p.Steps(), short(want), len(want)-1)
			}
			if !samePath(l.two[:], want[len(want)-2:]) || l.Steps() != len(want)-1 {
				t.Errorf("P11.1: way %d changed ahead of touch %d: Leaf is%s behind %d touches, not the last two of%s behind %d", level, ahead, short(l.two[:]), l.Steps(), short(want), len(want)-1)
			}
		}
	}
}

// held goes on with Path, Leaf and the twin, between's changes between any two touches.
func held(t *testing.T, w *world.World, key int64, between func(at int)) {
	t.Helper()
	p, l, q := byPath(w, key), byLeaf(w, key), newTwin(w, key)
	for at := range 100 {
		between(at)
		end := q.step()
		if p.Step() != end || l.Step() != end {
			t.Fatalf("P11.1: of %d, behind touch %d the end is told as %t, %t, not %t", key, at+1, p.Done(), l.Done(), end)
		}
		if p.Steps() != q.touches()-bit(!end) || l.Steps() != p.Steps() {
			t.Fatalf("P11.1: of %d, behind touch %d there are %d, %d touches, not %d", key, at+1, p.Steps(), l.Steps(), q.touches()-bit(!end))
		}
		if end {
			if !samePath(p.path, q.path) {
				t.Fatalf("P11.1: Path of %d is%s, not%s", key, short(p.path), short(q.path))
			}
			if !samePath(l.two[:], q.path[len(q.path)-2:]) {
				t.Fatalf("P11.1: Leaf of %d is%s, not the last two of%s", key, short(l.two[:]), short(q.path))
			}
			return
		}
	}
	t.Fatalf("P1: of %d: no end", key)
}

func bit(b bool) int {
	if b {
		return 1
	}
	return 0
}

// innersOf are a tree's inner nodes.
func innersOf(n *tree) []*tree {
	if len(n.below) == 0 {
		return nil
	}
	out := []*tree{n}
	for i := range n.below {
		out = append(out, innersOf(&n.below[i])...)
	}
	return out
}

// TestEveryWayChanged: each way of a tree changed once, ahead of each touch, to a leaf and to a tree.
func TestEveryWayChanged(t *testing.T) {
	for _, made := range []func() tree{three, uneven} {
		n, other, small := made(), in(between(0, 12), lf(41), in(nil, lf(42)), lf(43)), lf(99)
		w := grown(t, &n)
		plant(t, w, &other)
		plant(t, w, &small)
		nodes := append(innersOf(&n), &tree{ref: w.Entry, below: []tree{n}})
		for _, node := range nodes {
			for i, b := range node.below {
				for _, to := range []ref.Ref{other.ref, small.ref} {
					for _, k := range nearby(n.keys...) {
						for ahead := range 6 {
							held(t, w, k, func(at int) {
								if at == ahead {
									leads(t, w, node.ref, i, to)
								}
							})
							leads(t, w, node.ref, i, b.ref)
						}
					}
				}
			}
		}
	}
}

// TestManyWaysChanged: ways go to and fro, several between any two touches, those above where one is already among them.
func TestManyWaysChanged(t *testing.T) {
	r := rand.New(rand.NewSource(12))
	for range 150 {
		n, other := someTree(r, 4, -500, 500), someTree(r, 3, -500, 500)
		w := grown(t, &n)
		plant(t, w, &other)
		from := append(innersOf(&n), &tree{ref: w.Entry, below: []tree{n}})
		to := append(innersOf(&other), &other)
		for range 10 {
			held(t, w, r.Int63n(1000)-500, func(int) {
				for range r.Intn(4) {
					node := from[r.Intn(len(from))]
					i := r.Intn(len(node.below))
					leads(t, w, node.ref, i, []ref.Ref{node.below[i].ref, to[r.Intn(len(to))].ref}[r.Intn(2)])
				}
			})
		}
	}
}

// TestThreadsBetween: threads that go on in some order answer as each does in one go.
func TestThreadsBetween(t *testing.T) {
	r := rand.New(rand.NewSource(13))
	for range 40 {
		n := someTree(r, 5, -500, 500)
		w := grown(t, &n)
		all := dump(w)
		var keys []int64
		var l []*seeker
		for range 3 {
			k := r.Int63n(1000) - 500
			keys = append(keys, k, k)
			l = append(l, byPath(w, k), byLeaf(w, k))
		}
		for range 300 {
			l[r.Intn(len(l))].Step()
		}
		for i, s := range l {
			s.run(t)
			once := byPath(w, keys[i]).run(t)
			if s.Steps() != once.Steps() {
				t.Fatalf("P11.1: of %d there are %d touches, not %d", keys[i], s.Steps(), once.Steps())
			}
			if i%2 == 0 && !samePath(s.path, once.path) {
				t.Fatalf("P11.1: step by step Path of %d is%s, in one go%s", keys[i], short(s.path), short(once.path))
			}
			if i%2 == 1 && !samePath(s.two[:], once.path[len(once.path)-2:]) {
				t.Fatalf("P11.1: step by step Leaf of %d is%s, in one go Path is%s", keys[i], short(s.two[:]), short(once.path))
			}
		}
		if dump(w) != all {
			t.Fatal("P11.1: something changed")
		}
	}
}

// TestSeveralInOneWork: each call in a thread's work begins at the entry again, with touches of its own.
func TestSeveralInOneWork(t *testing.T) {
	n, other := three(), lf(99)
	w := grown(t, &n)
	plant(t, w, &other)
	var paths [2][]Step
	var two [2]Step
	x := thread.New(func(x *thread.Thread) []int64 {
		k := world.Task{Thread: x, World: w}
		k.Do(func() int64 { return 7 })
		paths[0] = Path(k, 12)
		two[0], two[1] = Leaf(k, 20)
		paths[1] = Path(k, 12)
		return nil
	})
	want := [][]Step{down(w, n, 12), down(w, n, 20), down(w, n, 12)}
	for range 7 {
		x.Step()
	}
	leads(t, w, n.ref, 1, other.ref)
	// The root's way is read by the third call alone from now on.
	want[2] = append(want[2][:2], Step{Ref: other.ref, Node: w.Arena.Look(other.ref)})
	if x.Step(); x.Done() || x.Step() != true || x.Steps() != 9 {
		t.Errorf("P11.1: %d touches, at the end: %t; not 9", x.Steps(), x.Done())
	}
	if !samePath(paths[0], want[0]) || !samePath(two[:], want[1][2:]) || !samePath(paths[1], want[2]) {
		t.Errorf("P11.1: three in one work:%s,%s,%s", short(paths[0]), short(two[:]), short(paths[1]))
	}
}

// TestKeysThatDoNotFit: nodes that aren't right go by what chapter 3's Way tells of them; a way that isn't there leads to 0.
func TestKeysThatDoNotFit(t *testing.T) {
	for _, ways := range []inner.Inner{
		{}, {Keys: between(5)}, {Keys: between(5, 6, 7), Ways: []ref.Ref{0, 0}}, {Keys: between(9, 5, 1), Ways: []ref.Ref{0, 0, 0, 0}}, {Ways: []ref.Ref{0, 0}},
	} {
		w := empty(t, 9)
		small := lf(3)
		plant(t, w, &small)
		for i := range ways.Ways {
			ways.Ways[i] = small.ref
		}
		node := arena.Node{Inner: true, Pairs: leaf.Leaf{{Key: 1, Value: 2}}, Ways: ways}
		r := put(t, w, node)
		leads(t, w, w.Entry, 0, r)
		for _, k := range nearby(5, 6, 7, 9) {
			i := ways.Way(k)
			last := Step{Ref: w.Arena.Way(r, i)}
			if last.Ref != 0 {
				last.Node = w.Arena.Look(last.Ref)
			}
			want := []Step{{Ref: w.Entry, Node: w.Arena.Look(w.Entry)}, {Ref: r, Node: node, Way: i}, last}
			if s := byPath(w, k).run(t); !samePath(s.path, want) || s.Steps() != 2 {
				t.Errorf("P11.1: at %v Path of %d is%s behind %d touches, not%s", ways, k, short(s.path), s.Steps(), short(want))
			}
			if s := byLeaf(w, k).run(t); !samePath(s.two[:], want[1:]) || s.Steps() != 2 {
				t.Errorf("P11.1: at %v Leaf of %d is%s behind %d touches", ways, k, short(s.two[:]), s.Steps())
			}
		}
	}
}

// TestLeafWithWays: a leaf is one by its Inner alone, whatever else it was made of.
func TestLeafWithWays(t *testing.T) {
	w := empty(t, 9)
	node := arena.Node{Tagged: true, Ways: inner.Inner{Keys: between(5), Ways: []ref.Ref{w.Entry, w.Entry}}}
	r := put(t, w, node)
	leads(t, w, w.Entry, 0, r)
	want := []Step{{Ref: w.Entry, Node: w.Arena.Look(w.Entry)}, {Ref: r, Node: node}}
	for _, k := range nearby(5) {
		if s := byPath(w, k).run(t); !samePath(s.path, want) || s.Steps() != 1 {
			t.Errorf("P11.1: Path of %d is%s behind %d touches, not%s behind 1", k, short(s.path), s.Steps(), short(want))
		}
	}
}

// TestReferencesThatAreNot: what isn't a node is told as one without anything, where the way ends.
func TestReferencesThatAreNot(t *testing.T) {
	for _, r := range []ref.Ref{0, -1, 5, ref.Of(0, 2), ref.Of(3, 1), math.MaxInt64, math.MinInt64} {
		w := empty(t, 9)
		leads(t, w, w.Entry, 0, r)
		want := []Step{{Ref: w.Entry, Node: w.Arena.Look(w.Entry)}, {Ref: r}}
		if s := byPath(w, 5).run(t); !samePath(s.path, want) || s.Steps() != 1 {
			t.Errorf("P11.1: Path to %d is%s behind %d touches", r, short(s.path), s.Steps())
		}
		if s := byLeaf(w, 5).run(t); !samePath(s.two[:], want) || s.Steps() != 1 {
			t.Errorf("P11.1: Leaf of %d is%s behind %d touches", r, short(s.two[:]), s.Steps())
		}
	}
}

// TestCircles: ways that go in a circle have no leaf: nothing is told, and there is an end.
func TestCircles(t *testing.T) {
	for _, nodes := range []int{2, 9, 100} {
		w := empty(t, nodes)
		leads(t, w, w.Entry, 0, w.Entry)
		if s := byPath(w, 5).run(t); len(s.path) != 0 {
			t.Errorf("P1: Path in a circle is%s", short(s.path))
		}
		if s := byLeaf(w, 5).run(t); !samePath(s.two[:], make([]Step, 2)) {
			t.Errorf("P1: Leaf in a circle is%s", short(s.two[:]))
		}
	}
	n := three()
	w := grown(t, &n)
	leads(t, w, n.below[1].ref, 1, n.ref)
	// Keys that don't go in the circle come to their leaves; so does one that goes in it once, and then out of it.
	for _, k := range []int64{1, 11, 16, 20} {
		if s := byPath(w, k).run(t); !samePath(s.path, down(w, n, k)) {
			t.Errorf("P11.1: Path of %d is%s", k, short(s.path))
		}
	}
	for ahead := range 10 {
		held(t, w, 12, func(at int) {
			if at == ahead {
				leads(t, w, n.below[1].ref, 1, n.below[1].below[1].ref)
			}
		})
		leads(t, w, n.below[1].ref, 1, n.ref)
	}
}

// TestFullOfInnerNodes: a way through all the places that there are comes to its leaf.
func TestFullOfInnerNodes(t *testing.T) {
	for nodes := 2; nodes <= 40; nodes++ {
		w := empty(t, nodes)
		r := ref.Of(0, 1)
		for w.Arena.Used() < nodes {
			r = put(t, w, arena.Node{Inner: true, Ways: inner.Inner{Ways: []ref.Ref{r}}})
		}
		leads(t, w, w.Entry, 0, r)
		if s := byPath(w, 0).run(t); len(s.path) != nodes || s.path[nodes-1].Ref != ref.Of(0, 1) || s.Steps() != nodes-1 {
			t.Errorf("P11.1: of %d nodes one below the other Path has %d, behind %d touches", nodes, len(s.path), s.Steps())
		}
		if nodes == 2 {
			continue
		}
		w.Arena.Free(ref.Of(0, 1))
		last := put(t, w, arena.Node{Inner: true, Ways: inner.Inner{Ways: []ref.Ref{7}}})
		leads(t, w, ref.Of(2, 1), 0, last)
		if s := byPath(w, 0).run(t); len(s.path) != nodes+1 || s.path[nodes].Ref != 7 || s.Steps() != nodes {
			t.Errorf("P11.1: of %d inner nodes one below the other Path has %d, behind %d touches", nodes, len(s.path), s.Steps())
		}
	}
}

// TestNewMemory: what is answered is shared with no node and with no other answer.
func TestNewMemory(t *testing.T) {
	n := three()
	w := grown(t, &n)
	all := dump(w)
	spoil := func(l []Step) {
		for _, s := range l {
			keys, ways, pairs := s.Node.Ways.Keys[:cap(s.Node.Ways.Keys)], s.Node.Ways.Ways[:cap(s.Node.Ways.Ways)], s.Node.Pairs[:cap(s.Node.Pairs)]
			for i := range keys {
				keys[i] = 777
			}
			for i := range ways {
				ways[i] = 777
			}
			for i := range pairs {
				pairs[i] = leaf.Pair{Key: 777}
			}
		}
	}
	for _, k := range []int64{1, 12, 20} {
		want := down(w, n, k)
		kept := byPath(w, k).run(t)
		s := byPath(w, k).run(t)
		spoil(s.path)
		clear(s.path)
		spoil(byLeaf(w, k).run(t).two[:])
		if !samePath(kept.path, want) {
			t.Errorf("P2, R6: Path of %d is%s when another answer is changed", k, short(kept.path))
		}
	}
	if dump(w) != all {
		t.Errorf("P2, R6: a world is changed by its answers:\n%s\n%s", all, dump(w))
	}
	var twice [2][]Step
	x := thread.New(func(x *thread.Thread) []int64 {
		k := world.Task{Thread: x, World: w}
		twice[0], twice[1] = Path(k, 12), Path(k, 12)
		return nil
	})
	for !x.Step() {
	}
	spoil(twice[0])
	if !samePath(twice[1], down(w, n, 12)) {
		t.Errorf("P2, R6: two answers share memory: %v", twice[1])
	}
}

// TestTasksThatAreNot: nothing without a thread, without a world; none panics outside of a Step, or with a world that nobody made.
func TestTasksThatAreNot(t *testing.T) {
	n := three()
	w := grown(t, &n)
	all := dump(w)
	for _, k := range []world.Task{{}, {World: w}, {World: &world.World{}}, {Thread: thread.New(nil)}, {Me: 3}} {
		for _, key := range nearby(12) {
			if l := Path(k, key); len(l) != 0 {
				t.Errorf("P2, R7: Path is%s", short(l))
			}
			if above, last := Leaf(k, key); !sameStep(above, Step{}) || !sameStep(last, Step{}) {
				t.Errorf("P2, R7: Leaf is%s", short([]Step{above, last}))
			}
		}
	}
	x := thread.New(func(x *thread.Thread) []int64 {
		k := world.Task{Thread: x}
		above, last := Leaf(k, 12)
		if len(Path(k, 12)) != 0 || !sameStep(above, Step{}) || !sameStep(last, Step{}) {
			t.Error("P2, R7: something is told without a world, within a Step")
		}
		return nil
	})
	if !x.Step() || x.Steps() != 0 {
		t.Errorf("P2, R7: %d touches without a world", x.Steps())
	}
	if dump(w) != all {
		t.Error("P2, R7: something changed")
	}
	for _, k := range []world.Task{{Thread: thread.New(nil), World: w}, {Thread: thread.New(nil), World: &world.World{}}} {
		Path(k, 12)
		Leaf(k, 12)
	}
	s := byLeaf(&world.World{}, 12).run(t)
	byPath(&world.World{}, 12).run(t)
	if !samePath(s.two[:], make([]Step, 2)) || s.Steps() != 0 {
		t.Errorf("P1: in a world that nobody made Leaf is%s", short(s.two[:]))
	}
}
