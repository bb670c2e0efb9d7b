package degree

import (
	"math"
	"testing"

	"boscage/arena"
	"boscage/inner"
	"boscage/leaf"
	"boscage/ref"
	"boscage/seek"
	"boscage/thread"
	"boscage/world"
)

// TestEmptyUp: neither, without a touch.
func TestEmptyUp(t *testing.T) {
	for _, up := range [][]seek.Step{nil, {}} {
		for _, way := range []int{0, 1, -1, math.MinInt64, math.MaxInt64} {
			n := leafRoot()
			w := newBoth(t, plenty(2, 3), n)
			for _, r := range []ref.Ref{n.ref, w.real.Entry, 0, -1, ref.Of(50, 1)} {
				was := w.dump(w.real)
				out := ""
				x := thread.New(func(x *thread.Thread) []int64 {
					done, none := Fix(world.Task{Thread: x, World: w.real}, up, way, r)
					out = tell(done, none)
					return nil
				})
				if !x.Step() || x.Steps() != 0 || out != isNeither || w.dump(w.real) != was {
					t.Errorf("P13.1: with nothing above: %s behind %d touches", out, x.Steps())
				}
			}
			w.noFaults(t)
		}
	}
}

// TestTasksThatAreNot: nothing without a thread, without a world; none panics outside of a Step, or in a world that nobody made.
func TestTasksThatAreNot(t *testing.T) {
	for _, c := range all() {
		n := c.made()
		w := newBoth(t, plenty(2, 3), n)
		up, way := w.upTo(t, n.named("n").ref)
		was := w.dump(w.real)
		idle := thread.New(nil)
		for _, k := range []world.Task{{}, {World: w.real}, {Thread: idle}, {Me: 3}, {World: &world.World{}}, {Thread: idle, World: w.real}, {Thread: idle, World: &world.World{}}} {
			if done, none := Fix(k, up, way, n.named("n").ref); done || none {
				t.Errorf("P2, R7: %t, %t", done, none)
			}
		}
		for _, k := range []*world.World{nil, {}} {
			x := thread.New(func(x *thread.Thread) []int64 {
				if done, none := Fix(world.Task{Thread: x, World: k}, up, way, n.named("n").ref); done || none {
					t.Errorf("P2, R7: in no world: %t, %t", done, none)
				}
				return nil
			})
			for range 99 {
				x.Step()
			}
			if !x.Done() || k == nil && x.Steps() != 0 {
				t.Errorf("P2, R7: %d touches in no world", x.Steps())
			}
		}
		if w.dump(w.real) != was {
			t.Error("P2, R7: something changed")
		}
		w.noFaults(t)
	}
}

// fixAlone does a Fix in a world alone, that is to come to its end, whatever it comes to.
func fixAlone(t testing.TB, w *world.World, up []seek.Step, way int, node ref.Ref) string {
	t.Helper()
	out := ""
	x := thread.New(func(x *thread.Thread) []int64 {
		// Work that panics would be at its end as well.
		defer func() {
			if what := recover(); what != nil {
				if err, ok := what.(error); ok {
					t.Errorf("P1: Fix panics: %v", err)
				}
				panic(what)
			}
		}()
		done, none := Fix(world.Task{Thread: x, World: w}, up, way, node)
		out = tell(done, none)
		return nil
	})
	for range 500 {
		if x.Step() {
			return out
		}
	}
	t.Fatal("P1: no end")
	return ""
}

// TestWrongNodes: whatever references stand there, it ends, and none panics.
func TestWrongNodes(t *testing.T) {
	for _, c := range all() {
		n := c.made()
		w := newBoth(t, plenty(2, 3), n)
		refs := []ref.Ref{0, -1, w.real.Entry, n.ref, n.named("n").ref, n.named("s").ref, n.below[0].ref, ref.Of(60, 1), ref.Of(2, 9), math.MinInt64, math.MaxInt64}
		for i := range refs {
			for k := range refs {
				for m := range refs {
					w := newBoth(t, plenty(2, 3), c.made())
					fixAlone(t, w.real, []seek.Step{{Ref: refs[i]}, {Ref: refs[k]}}, m%3, refs[m])
					fixAlone(t, w.real, []seek.Step{{Ref: refs[i], Way: 1}, {Ref: refs[k], Way: 1}, {Ref: refs[m]}}, 1, refs[k])
					fixAlone(t, w.real, []seek.Step{{Ref: refs[i]}}, k%3, refs[m])
				}
			}
		}
	}
}

// TestLeavesAbove: a leaf has no way, so nothing is below it.
func TestLeavesAbove(t *testing.T) {
	n := sharesDeep()
	w := newBoth(t, plenty(2, 3), n)
	low, node := n.named("s").ref, n.named("n").ref
	for _, up := range [][]seek.Step{{{Ref: low}}, {{Ref: low}, {Ref: n.named("p").ref}}, {{Ref: n.named("p").ref}, {Ref: low}}, {{Ref: low}, {Ref: low}}} {
		was := w.dump(w.real)
		for way := range 3 {
			if out := fixAlone(t, w.real, up, way, node); out != isNeither || w.dump(w.real) != was {
				t.Errorf("P13.1: below a leaf: %s", out)
			}
		}
	}
	w.noFaults(t)
}

// oddNodes are nodes without ways, with keys that don't fit, or don't rise, with many ways, with one; tagged ones; leaves.
func oddNodes() []arena.Node {
	return []arena.Node{
		{Inner: true}, {Inner: true, Tagged: true}, {}, {Tagged: true, Pairs: leaf.Leaf{{Key: 5}}},
		{Inner: true, Ways: inner.Inner{Ways: make([]ref.Ref, 1)}},
		{Inner: true, Ways: inner.Inner{Keys: ks(5), Ways: make([]ref.Ref, 1)}},
		{Inner: true, Ways: inner.Inner{Ways: make([]ref.Ref, 2)}},
		{Inner: true, Ways: inner.Inner{Keys: ks(5), Ways: make([]ref.Ref, 2)}},
		{Inner: true, Tagged: true, Ways: inner.Inner{Keys: ks(9, 5, 1, 0), Ways: make([]ref.Ref, 2)}},
		{Inner: true, Ways: inner.Inner{Keys: ks(5, 4, 3, 2), Ways: make([]ref.Ref, 5)}},
		{Inner: true, Ways: inner.Inner{Keys: ks(5, 5, 3), Ways: make([]ref.Ref, 5)}},
		{Inner: true, Ways: inner.Inner{Keys: make([]int64, 49), Ways: make([]ref.Ref, 50)}},
		{Pairs: make(leaf.Leaf, 40)},
		{Pairs: leaf.Leaf{{Key: 9}, {Key: 1}}, Ways: inner.Inner{Ways: make([]ref.Ref, 2)}},
	}
}

// TestNodesThatAreNotRight: they lead to each other, in circles too: it ends, and none panics.
func TestNodesThatAreNotRight(t *testing.T) {
	for _, g := range oddNodes() {
		for _, p := range oddNodes() {
			for _, node := range oddNodes() {
				for circle := range 3 {
					w := newBoth(t, plenty(2, 3), run("", 1, 1))
					l := []ref.Ref{w.add(t, g), w.add(t, p), w.add(t, node)}
					l = append(l[:3-circle], l[:circle]...)
					for i, r := range l {
						for k := range 3 {
							w.leads(r, k, l[(i+1)%3])
						}
					}
					w.leads(w.real.Entry, 0, l[0])
					fixAlone(t, w.real, []seek.Step{{Ref: l[0], Way: 1}, {Ref: l[1], Way: 1}}, 0, l[2])
					fixAlone(t, w.real, []seek.Step{{Ref: w.real.Entry}, {Ref: l[0]}}, 1, l[1])
					fixAlone(t, w.real, []seek.Step{{Ref: w.real.Entry}, {Ref: l[0]}}, 0, l[1])
					fixAlone(t, w.real, []seek.Step{{Ref: w.real.Entry}}, 0, l[0])
				}
			}
		}
	}
}

// TestOneWayAbove: nothing stands beside a node that is the only way.
func TestOneWayAbove(t *testing.T) {
	for _, made := range []func() *tree{
		func() *tree { return in("p", nil, run("n", 10, 1)) },
		func() *tree { return over("g", in("p", nil, run("n", 10, 1)), wide("q", 20, 2)) },
		func() *tree { return over("g", wide("q", 10, 2), in("p", nil, wide("n", 30, 1))) },
	} {
		n := made()
		w := newBoth(t, plenty(2, 3), n)
		up, way := w.upTo(t, n.named("n").ref)
		keys := n.nearby()
		was, _ := found(w.real, keys)
		fixAlone(t, w.real, up, way, n.named("n").ref)
		if got, _ := found(w.real, keys); tell(got) != tell(was) {
			t.Errorf("P13.1: keys are found with %v, not %v", got, was)
		}
		w.noFaults(t)
	}
}
