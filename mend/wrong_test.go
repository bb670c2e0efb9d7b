package mend

import (
	"math"
	"testing"

	"boscage/arena"
	"boscage/inner"
	"boscage/leaf"
	"boscage/ref"
	"boscage/thread"
	"boscage/world"
)

// TestTasksThatAreNot: nothing without a thread, without a world; none panics, and each ends, outside of a Step, or in a world that nobody made.
func TestTasksThatAreNot(t *testing.T) {
	for _, c := range append(oneWrong(), manyWrong()...) {
		w := newBoth(t, plenty(c.a, c.b), c.tree)
		was := w.dump(w.real)
		idle := thread.New(nil)
		for _, k := range []world.Task{{}, {World: w.real}, {Thread: idle}, {Me: 3}, {World: &world.World{}}, {Thread: idle, World: w.real}, {Thread: idle, World: &world.World{}}} {
			for _, key := range []int64{c.key, 0, math.MinInt64, math.MaxInt64} {
				if Path(k, key) {
					t.Error("P2, R7: there is no room in no world")
				}
			}
		}
		for _, k := range []*world.World{nil, {}} {
			x := thread.New(func(x *thread.Thread) []int64 {
				if Path(world.Task{Thread: x, World: k}, c.key) {
					t.Error("P2, R7: there is no room in no world")
				}
				return nil
			})
			for range 99 {
				x.Step()
			}
			if !x.Done() || k == nil && x.Steps() != 0 {
				t.Errorf("P2, R7: %d touches in no world", x.Steps())
			}
		}
		if w.dump(w.real) != was {
			t.Error("P2, R7: something changed")
		}
	}
}

// TestWithinATouch: a touch calls none of its thread's; if one does, it ends, and changes nothing.
func TestWithinATouch(t *testing.T) {
	n := meets()
	w := newBoth(t, plenty(2, 3), n)
	all := whole(w.real)
	x := thread.New(func(x *thread.Thread) []int64 {
		x.Ask(func() bool { return Path(world.Task{Thread: x, World: w.real}, 10) })
		return nil
	})
	if !x.Step() || x.Steps() != 1 || whole(w.real) != all {
		t.Errorf("P1: within a touch: %d touches, %s", x.Steps(), whole(w.real))
	}
}

// oddNodes are nodes without ways, with keys that don't fit, or don't rise, with many ways, with one; tagged ones; leaves.
func oddNodes() []arena.Node {
	return []arena.Node{
		{Inner: true}, {Inner: true, Tagged: true}, {}, {Tagged: true, Pairs: leaf.Leaf{{Key: 5}}},
		{Inner: true, Ways: inner.Inner{Ways: make([]ref.Ref, 1)}},
		{Inner: true, Ways: inner.Inner{Keys: ks(5), Ways: make([]ref.Ref, 1)}},
		{Inner: true, Ways: inner.Inner{Ways: make([]ref.Ref, 2)}},
		{Inner: true, Ways: inner.Inner{Keys: ks(5), Ways: make([]ref.Ref, 2)}},
		{Inner: true, Tagged: true, Ways: inner.Inner{Keys: ks(9, 5, 1, 0), Ways: make([]ref.Ref, 2)}},
		{Inner: true, Ways: inner.Inner{Keys: ks(5, 4, 3, 2), Ways: make([]ref.Ref, 5)}},
		{Inner: true, Ways: inner.Inner{Keys: ks(5, 5, 3), Ways: make([]ref.Ref, 5)}},
		{Inner: true, Ways: inner.Inner{Keys: make([]int64, 49), Ways: make([]ref.Ref, 50)}},
		{Pairs: make(leaf.Leaf, 40)},
		{Pairs: leaf.Leaf{{Key: 9}, {Key: 1}}, Ways: inner.Inner{Ways: make([]ref.Ref, 2)}},
	}
}

// TestNodesThatAreNotRight: they lead to each other, in circles too: each Step ends, and none panics.
func TestNodesThatAreNotRight(t *testing.T) {
	t.Parallel()
	for _, g := range oddNodes() {
		for _, p := range oddNodes() {
			for _, node := range oddNodes() {
				for circle := range 3 {
					w := newBoth(t, plenty(2, 3), run("", 1, 1))
					l := []ref.Ref{w.add(t, g), w.add(t, p), w.add(t, node)}
					l = append(l[:3-circle], l[:circle]...)
					for i, r := range l {
						for k := range 3 {
							w.leads(r, k, l[(i+1)%3])
						}
					}
					w.leads(w.real.Entry, 0, l[0])
					goOnAlone(t, w.real, 5)
				}
			}
		}
	}
}

// goOnAlone goes on with a Path for a while, whatever it comes to.
func goOnAlone(t testing.TB, w *world.World, key int64) {
	t.Helper()
	x := thread.New(func(x *thread.Thread) []int64 {
		// Work that panics would be at its end as well.
		defer func() {
			if what := recover(); what != nil {
				if err, ok := what.(error); ok {
					t.Errorf("P1: Path panics: %v", err)
				}
				panic(what)
			}
		}()
		Path(world.Task{Thread: x, World: w}, key)
		return nil
	})
	for range 120 {
		x.Step()
	}
}
