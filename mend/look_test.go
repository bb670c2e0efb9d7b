package mend

import (
	"math"
	"testing"

	"boscage/arena"
	"boscage/inner"
	"boscage/leaf"
	"boscage/ref"
	"boscage/world"
)

// leafOf is a leaf of so many pairs; innerOf a node of so many ways.
func leafOf(n int) arena.Node { return arena.Node{Pairs: make(leaf.Leaf, n)} }

func innerOf(n int) arena.Node {
	return arena.Node{Inner: true, Ways: inner.Inner{Keys: make([]int64, max(0, n-1)), Ways: make([]ref.Ref, n)}}
}

func tagOf(n arena.Node) arena.Node {
	n.Tagged = true
	return n
}

// TestNumbers: what may be wrong, by its number.
func TestNumbers(t *testing.T) {
	if Right != 0 || Tagged != 1 || Few != 2 || Wrongs != 3 {
		t.Errorf("P14.1: %d, %d, %d, %d", Right, Tagged, Few, Wrongs)
	}
}

// TestLookByHand: the nodes that the chapter speaks of, at the edges.
func TestLookByHand(t *testing.T) {
	for i, c := range []struct {
		a    int
		node arena.Node
		root bool
		want Wrong
	}{
		{2, leafOf(0), false, Few}, {2, leafOf(1), false, Few}, {2, leafOf(2), false, Right}, {2, leafOf(3), false, Right},
		{2, leafOf(0), true, Right}, {2, leafOf(1), true, Right}, {2, leafOf(9), true, Right},
		{2, innerOf(0), false, Few}, {2, innerOf(1), false, Few}, {2, innerOf(2), false, Right}, {2, innerOf(9), false, Right},
		{2, innerOf(0), true, Few}, {2, innerOf(1), true, Few}, {2, innerOf(2), true, Right}, {2, innerOf(9), true, Right},
		{5, leafOf(4), false, Few}, {5, leafOf(5), false, Right}, {5, leafOf(4), true, Right},
		{5, innerOf(4), false, Few}, {5, innerOf(5), false, Right}, {5, innerOf(2), true, Right}, {5, innerOf(1), true, Few},
		{32, leafOf(31), false, Few}, {32, leafOf(32), false, Right}, {32, innerOf(31), false, Few}, {32, innerOf(32), false, Right}, {32, innerOf(2), true, Right},
		// Tagged goes ahead of few, whatever else it is.
		{2, tagOf(leafOf(0)), false, Tagged}, {2, tagOf(leafOf(5)), false, Tagged}, {2, tagOf(leafOf(0)), true, Tagged},
		{2, tagOf(innerOf(0)), false, Tagged}, {2, tagOf(innerOf(1)), true, Tagged}, {2, tagOf(innerOf(2)), true, Tagged}, {9, tagOf(innerOf(2)), false, Tagged},
		// Of a below 2: as the words say.
		{1, leafOf(0), false, Few}, {1, leafOf(1), false, Right}, {1, innerOf(1), false, Right}, {1, innerOf(1), true, Few},
		{0, leafOf(0), false, Right}, {0, innerOf(0), false, Right}, {0, innerOf(0), true, Few}, {0, innerOf(1), true, Few},
		{-1, leafOf(0), false, Right}, {-1, innerOf(0), true, Few}, {math.MinInt64, leafOf(0), false, Right}, {math.MinInt64, innerOf(1), true, Few}, {math.MinInt64, innerOf(2), true, Right},
		{0, tagOf(leafOf(3)), false, Tagged}, {math.MinInt64, tagOf(innerOf(3)), true, Tagged},
		{math.MaxInt64, leafOf(32), false, Few}, {math.MaxInt64, innerOf(32), false, Few}, {math.MaxInt64, leafOf(0), true, Right}, {math.MaxInt64, innerOf(2), true, Right},
	} {
		if got := Look(c.a, c.node, c.root); got != c.want {
			t.Errorf("P14.1: case %d: a is %d, as root %t: %d, not %d", i, c.a, c.root, got, c.want)
		}
	}
}

// TestLookAll: all a from below 2 to above 32, all sizes, of each kind.
func TestLookAll(t *testing.T) {
	for a := -3; a <= 40; a++ {
		for n := range 40 {
			for _, c := range []struct {
				node          arena.Node
				below, asRoot bool
			}{{leafOf(n), n < a, false}, {innerOf(n), n < a, n < 2}} {
				for _, root := range []bool{false, true} {
					want := Right
					if root && c.asRoot || !root && c.below {
						want = Few
					}
					if got := Look(a, c.node, root); got != want {
						t.Errorf("P14.1: a is %d, %d entries, inner %t, as root %t: %d, not %d", a, n, c.node.Inner, root, got, want)
					}
					if got := Look(a, tagOf(c.node), root); got != Tagged {
						t.Errorf("P14.1: a is %d, %d entries, inner %t, as root %t, tagged: %d", a, n, c.node.Inner, root, got)
					}
				}
			}
		}
	}
}

// TestLookEntries: entries are a leaf's pairs, and an inner node's ways, whatever else stands there.
func TestLookEntries(t *testing.T) {
	low, high := leafOf(1), innerOf(1)
	low.Ways = innerOf(9).Ways
	high.Pairs, high.Ways.Keys = leafOf(9).Pairs, make([]int64, 9)
	if Look(2, low, false) != Few || Look(2, low, true) != Right || Look(2, high, false) != Few || Look(2, high, true) != Few {
		t.Error("P14.1: a node's entries are told by what it isn't")
	}
	low.Pairs, high.Ways.Ways = leafOf(2).Pairs, make([]ref.Ref, 2)
	low.Ways, high.Pairs, high.Ways.Keys = inner.Inner{}, nil, nil
	if Look(2, low, false) != Right || Look(2, high, false) != Right || Look(2, high, true) != Right {
		t.Error("P14.1: a node's entries are told by what it isn't")
	}
}

// TestLookIsNoTouch: work in which it is all that is done has none, and what is handed in stays as it is.
func TestLookIsNoTouch(t *testing.T) {
	n := tagBelow()
	b := newBoth(t, plenty(2, 3), n)
	was := b.dump(b.real)
	l := []arena.Node{leafOf(1), tagOf(leafOf(1)), innerOf(3), {}}
	for _, s := range spots(b.real) {
		l = append(l, s.node)
	}
	told := tell(l)
	p := b.start(job{
		func(t world.Task) string {
			out := ""
			for _, n := range l {
				out += tell(Look(2, n, false), Look(2, n, true))
			}
			return out
		},
		func(p *twin) string { return p.b.pairs[0].out },
	})
	p.real.Step()
	if !p.real.Done() || p.real.Steps() != 0 || p.out == "" || b.dump(b.real) != was || tell(l) != told {
		t.Errorf("P14.1: Look has %d touches: %q", p.real.Steps(), p.out)
	}
	b.noFaults(t)
}
