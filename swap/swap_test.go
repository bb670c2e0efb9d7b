package swap

import (
	"fmt"
	"slices"
	"testing"

	"boscage/arena"
	"boscage/inner"
	"boscage/leaf"
	"boscage/llx"
	"boscage/ref"
	"boscage/thread"
	"boscage/world"
)

// newWorld has so many places beside those of the root and the entry.
func newWorld(left, records int) *world.World {
	w, _ := world.New(2, 3, 1, 2+left, records)
	return w
}

// alone does some work in a world: what it answers, and how many touches it has.
func alone(t *testing.T, w *world.World, work func(world.Task) []ref.Ref) ([]ref.Ref, int) {
	t.Helper()
	x := thread.New(func(x *thread.Thread) []int64 {
		var out []int64
		for _, r := range work(world.Task{Thread: x, World: w}) {
			out = append(out, int64(r))
		}
		return out
	})
	for range 500 {
		if x.Step() {
			var out []ref.Ref
			for _, n := range x.Out() {
				out = append(out, ref.Ref(n))
			}
			return out, x.Steps()
		}
	}
	t.Fatal("P1: no end")
	return nil, 0
}

// above is a node with both as ways.
func above(a ref.Ref, key int64, b ref.Ref) arena.Node {
	return arena.Node{Inner: true, Ways: inner.Inner{Keys: []int64{key}, Ways: []ref.Ref{a, b}}}
}

// TestHalves: of pairs, and of ways.
func TestHalves(t *testing.T) {
	low := arena.Node{Pairs: leaf.Leaf{{Key: 2}, {Key: 5}, {Key: 9}}}
	wide := arena.Node{Inner: true, Ways: inner.Inner{Keys: []int64{4, 7}, Ways: []ref.Ref{71, 72, 73}}}
	for _, c := range []struct {
		node arena.Node
		want []arena.Node
		key  int64
	}{
		{low, []arena.Node{{Pairs: low.Pairs[:1]}, {Pairs: low.Pairs[1:]}}, 5},
		{wide, []arena.Node{{Inner: true, Ways: inner.Inner{Ways: []ref.Ref{71}}}, {Inner: true, Ways: inner.Inner{Keys: []int64{7}, Ways: []ref.Ref{72, 73}}}}, 4},
	} {
		w := newWorld(3, 0)
		made, steps := alone(t, w, func(t world.Task) []ref.Ref { return Halves(t, c.node, above) })
		if len(made) != 3 || steps != 3 {
			t.Fatalf("%v are made, by %d touches", made, steps)
		}
		for i, want := range append(c.want, above(made[0], c.key, made[1])) {
			if got := w.Arena.Look(made[i]); fmt.Sprint(got) != fmt.Sprint(want) {
				t.Errorf("node %d is %v, not %v", i, got, want)
			}
		}
	}
}

// TestHalvesWithoutRoom: the last one is 0; both halves are tried, what is above them isn't without them.
func TestHalvesWithoutRoom(t *testing.T) {
	for left := range 4 {
		w := newWorld(left, 0)
		made, steps := alone(t, w, func(t world.Task) []ref.Ref {
			return Halves(t, arena.Node{Pairs: leaf.Leaf{{Key: 1}, {Key: 2}}}, above)
		})
		for i, r := range made {
			if (r != 0) != (i < left) {
				t.Errorf("%d places are left: %v", left, made)
			}
		}
		if want := []int{2, 2, 3, 3}[left]; steps != want || len(made) != 3 || w.Arena.Used() != 2+left {
			t.Errorf("%d places are left: %d touches, not %d, %d places are used", left, steps, want, w.Arena.Used())
		}
	}
}

// putIn puts the second of two leaves in instead of the root; somebody may change the entry behind its Load, and there may be no room for a third one.
func putIn(t *testing.T, w *world.World, room bool, changed bool) (done, none bool, left []ref.Ref) {
	t.Helper()
	root := w.Arena.Way(w.Entry, 0)
	alone(t, w, func(t world.Task) []ref.Ref {
		l, _ := llx.Loads(t, w.Entry, root)
		t.Ask(func() bool { return changed && w.Arena.SwapInfo(w.Entry, 0, 99) })
		made := []ref.Ref{t.Make(arena.Node{}), t.Make(arena.Node{Pairs: leaf.Leaf{{Key: 7}}})}
		if !room {
			made = append(made, 0)
		}
		done, none = In(t, l, 0, made)
		return nil
	})
	for r := w.Epochs.Ready(0, 9); r != 0; r = w.Epochs.Ready(0, 9) {
		left = append(left, r)
	}
	if !done && (w.Arena.Way(w.Entry, 0) != root || w.Arena.Mark(root) || w.Arena.Used() != 2) {
		t.Errorf("it isn't done, and %d places are used", w.Arena.Used())
	}
	return done, none, left
}

// TestIn: the last of those made is put in, what was there is let go; else all that was made is freed.
func TestIn(t *testing.T) {
	w := newWorld(2, 9)
	root := w.Arena.Way(w.Entry, 0)
	done, none, left := putIn(t, w, true, false)
	if !done || none || !slices.Equal(left, []ref.Ref{root}) || !w.Arena.Mark(root) || w.Arena.Used() != 4 {
		t.Errorf("%t, %t; %v wait", done, none, left)
	}
	if now := w.Arena.Look(w.Arena.Way(w.Entry, 0)); len(now.Pairs) != 1 || now.Pairs[0].Key != 7 {
		t.Errorf("the root is %v", now)
	}
	for _, c := range []struct {
		records       int
		room, changed bool
		none          bool
	}{{9, false, false, true}, {0, true, false, true}, {9, true, true, false}, {0, false, true, true}} {
		done, none, left := putIn(t, newWorld(2, c.records), c.room, c.changed)
		if done || none != c.none || len(left) != 0 {
			t.Errorf("%+v: %t, %t; %v wait", c, done, none, left)
		}
	}
}
