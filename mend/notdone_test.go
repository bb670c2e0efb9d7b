package mend

import (
	"fmt"
	"math/rand"
	"slices"
	"strings"
	"testing"

	"boscage/arena"
	"boscage/record"
	"boscage/ref"
	"boscage/world"
)

// changeInfo gives a node another record, that is done: whoever loaded it before can't change it any more.
func (b *both) changeInfo(t testing.TB, r ref.Ref) {
	t.Helper()
	n := b.make(t, record.Record{Nodes: []ref.Ref{r}, Infos: []int64{b.real.Arena.Info(r)}, Keep: 1})
	b.do(func(w *world.World) {
		w.Arena.SwapInfo(r, w.Arena.Info(r), n)
		w.Records.SetAll(n)
		w.Records.Set(n, record.Done)
	})
}

// TestTriedAgain: as often as somebody changes a node behind its Load, the Fix comes to neither, and the way is gone, and the Fix is tried, once more.
func TestTriedAgain(t *testing.T) {
	for _, c := range []struct {
		made  func() *tree
		node  string // that is changed
		path  int    // touches of Path, ahead and behind
		after int
		loads int
		makes int
		at    int // which of the nodes that Store takes is changed
		n     int // how many Store takes
		want  string
	}{
		{tagged, "entry", 2, 2, 6 + 7, 1, 0, 2, "([10 11] 20 [20 21])"},
		{tagged, "n", 2, 2, 6 + 7, 1, 1, 2, "([10 11] 20 [20 21])"},
		{leafRoot, "s", 2, 1, 6 + 6 + 5, 1, 2, 3, "[10 11]"},
		{tagBelow, "p", 3, 2, 6 + 7 + 7, 1, 1, 3, "([10 11] 20 [20 21] 30 [30 31])"},
		{meets, "n", 2, 1, 6 + 7 + leafs, 1, 2, 4, "[10 20 21]"},
		{meets, "entry", 2, 1, 6 + 7 + leafs, 1, 0, 4, "[10 20 21]"},
		{shares, "s", 2, 2, 6 + 7 + leafs, 3, 3, 4, "([10 20] 21 [21 22])"},
	} {
		for times := range 4 {
			n := c.made()
			w := newBoth(t, plenty(2, 3), n)
			r := w.real.Entry
			if c.node != "entry" {
				r = n.named(c.node).ref
			}
			p := w.start(pathJob(10))
			for range times {
				w.changeBehindLoads(t, p, r)
			}
			out, steps := p.run(t)
			// Of one that isn't done: the record, SwapInfo up to the one that isn't taken, Info, All, Set; Free of each that was made.
			want := times*(c.path+c.loads+c.makes+1+c.at+1+3+c.makes) + c.path + c.loads + c.makes + 4*c.n + 1 + c.after
			if out != isMended || steps != want || whole(w.real) != c.want {
				t.Errorf("P14.2: %s was changed %d times: %s, %s behind %d touches, not %s behind %d", c.node, times, out, whole(w.real), steps, c.want, want)
			}
			if got := strings.Count(fmt.Sprint(p.twin.fixes), "neither"); got != times || len(p.twin.fixes) != times+1 {
				t.Errorf("P14.2: %s was changed %d times: %q", c.node, times, p.twin.fixes)
			}
			w.holdPlaces(t)
			w.noFaults(t)
			w.stop()
		}
	}
}

// changeBehindLoads goes on till a node is to be made, and changes a node that was loaded; then on till the next way is to be gone.
func (b *both) changeBehindLoads(t *testing.T, p *pair, r ref.Ref) {
	t.Helper()
	p.step(t)
	for p.twin.ahead != "Alloc" {
		p.step(t)
	}
	b.changeInfo(t, r)
	for p.twin.ahead != "Way entry" {
		p.step(t)
	}
}

// TestSomebodyWasAhead: another one comes behind the way was gone, and mends it: the Fix comes to neither, and nothing is wrong then.
func TestSomebodyWasAhead(t *testing.T) {
	for i, c := range append(oneWrong(), manyWrong()...) {
		w := newBoth(t, plenty(c.a, c.b), c.tree)
		slow := w.start(pathJob(c.key))
		// Up to the first touch of Fix: a Mark.
		for !strings.HasPrefix(slow.twin.ahead, "Mark") {
			slow.step(t)
		}
		w.start(pathJob(c.key)).runUnheld(t)
		made := w.real.Arena.Used()
		out, _ := slow.run(t)
		if out != isMended || whole(w.real) != c.want || len(slow.twin.fixes) != 1 || !strings.Contains(slow.twin.fixes[0], "neither") || w.real.Arena.Used() != made {
			t.Errorf("P14.2: case %d: somebody was ahead: %s by %q, %s", i, out, slow.twin.fixes, whole(w.real))
		}
		w.noFaults(t)
		w.stop()
	}
}

// TestLookedAtAnew: another one changes the way between two Fixes: the next one is of what is there by then.
func TestLookedAtAnew(t *testing.T) {
	for _, c := range []struct {
		first func() *tree
		then  *tree // the root, put there behind the first Fix
		want  string
		fixes string
	}{
		{twice, in("a", nil, run("b", 10, 2)), "[10 11]", "untag n, fill #4:3"},
		{twice, run("a", 10, 1), "[10]", "untag n"},
		{tagged, wide("a", 10, 3).tag(), "([10 11] 20 [20 21] 30 [30 31])", "untag n, untag #4:3"},
		{leafRoot, over("a", run("b", 10, 1), run("c", 20, 2)), "[10 20 21]", "fill n, fill b"},
	} {
		n := c.first()
		w := newBoth(t, plenty(2, 3), n)
		to := w.addTree(t, c.then)
		for _, o := range c.then.nodes() {
			w.names[o.ref] = o.name
		}
		p := w.start(pathJob(10))
		for done := false; !done || p.twin.ahead != "Way entry"; {
			p.step(t)
			done = done || len(p.twin.fixes) > 0
		}
		w.leads(w.real.Entry, 0, to)
		out, _ := p.run(t)
		if out != isMended || whole(w.real) != c.want || len(p.twin.fixes) != strings.Count(c.fixes, ",")+1 {
			t.Errorf("P14.2: %s by %q, %s, not %s", out, p.twin.fixes, whole(w.real), c.want)
		}
		for i, fix := range strings.Split(c.fixes, ", ") {
			name, word, _ := strings.Cut(fix, " ")
			if !strings.HasPrefix(p.twin.fixes[i], name) || !strings.Contains(word, ":") && p.twin.fixes[i] != fix {
				t.Errorf("P14.2: %q, not %s", p.twin.fixes, c.fixes)
			}
		}
		w.noFaults(t)
		w.stop()
	}
}

// TestNoRoom: with few places, or few records: true, and what was done stays.
func TestNoRoom(t *testing.T) {
	for i, c := range []struct {
		tree    *tree
		left    int
		records int
		want    string
		fixes   string
		steps   int
		waits   int
	}{
		{tagged(), 0, 9, "*([10 11] 20 [20 21])", "untag n: none", 2 + 6 + 7 + 1, 0},
		{tagged(), 9, 0, "*([10 11] 20 [20 21])", "untag n: none", 2 + 6 + 7 + 1 + 1 + 1, 0},
		{leafRoot(), 0, 9, "([10 11])", "fill n: none", 2 + 6 + 6 + 5 + 1, 0},
		{leafRoot(), 9, 0, "([10 11])", "fill n: none", 2 + 6 + 6 + 5 + 1 + 1 + 1, 0},
		// The first of two has room.
		{twice(), 0, 9, "*(*([10 11] 20 [20 21]) 30 [30 31])", "untag n: none", 3 + 6 + 7 + 1, 0},
		{twice(), 1, 9, "(*([10 11] 20 [20 21]) 30 [30 31])", "untag n, untag m: none", 3 + 6 + 7 + 1 + two + 3 + 6 + 7 + 7 + 1, 1},
		{twice(), 2, 9, "([10 11] 20 [20 21] 30 [30 31])", "untag n, untag m", 3 + 6 + 7 + 1 + two + 3 + 6 + 7 + 7 + 1 + three + 2, 3},
		{twice(), 9, 0, "*(*([10 11] 20 [20 21]) 30 [30 31])", "untag n: none", 3 + 6 + 7 + 1 + 1 + 1, 0},
		{twice(), 9, 1, "(*([10 11] 20 [20 21]) 30 [30 31])", "untag n, untag m: none", 3 + 6 + 7 + 1 + two + 3 + 6 + 7 + 7 + 1 + 1 + 1, 1},
		{twice(), 9, 2, "([10 11] 20 [20 21] 30 [30 31])", "untag n, untag m", 3 + 6 + 7 + 1 + two + 3 + 6 + 7 + 7 + 1 + three + 2, 3},
		{climbs(), 0, 9, "(([10] 20 [20 21]) 30 ([30 31] 40 [40 41]))", "fill n: none", 3 + 7 + 7 + leafs + 1, 0},
		{climbs(), 1, 9, "(([10] 20 [20 21]) 30 ([30 31] 40 [40 41]))", "fill n: none", 3 + 7 + 7 + leafs + 2 + 1, 0},
		{climbs(), 2, 9, "(([10 20 21]) 30 ([30 31] 40 [40 41]))", "fill n, fill #9: none", 3 + 7 + 7 + leafs + 2 + four + 3 + 6 + 7 + 6 + 7 + 1, 3},
		{climbs(), 9, 1, "(([10 20 21]) 30 ([30 31] 40 [40 41]))", "fill n, fill #9: none", 3 + 7 + 7 + leafs + 2 + four + 3 + 6 + 7 + 6 + 7 + 1 + 1 + 1, 3},
		{climbs(), 3, 2, "([10 20 21] 30 [30 31] 40 [40 41])", "fill n, fill #9", 3 + 7 + 7 + leafs + 2 + four + 3 + 6 + 7 + 6 + 7 + 1 + four + 2, 6},
		// The one beside, that is tagged, has room; then the node itself has none.
		{besideTagged(), 0, 9, "([10] 20 *([20 21] 30 [30 31]))", "fill n: none", 2 + 6 + 7 + 6 + 7 + 7 + 1, 0},
		{besideTagged(), 1, 9, "([10] 20 [20 21] 30 [30 31])", "fill n, fill n: none", 2 + 6 + 7 + 6 + 7 + 7 + 1 + three + 2 + 6 + 8 + leafs + 1, 2},
		// Nothing is wrong: no room is needed.
		{wide("n", 10, 2), 0, 0, "([10 11] 20 [20 21])", "", 2, 0},
	} {
		w := newBoth(t, setting{2, 3, c.left, c.records}, c.tree)
		keys := c.tree.nearby()
		was, _ := found(w.real, keys)
		p := w.start(pathJob(10))
		out, steps := p.run(t)
		short := strings.HasSuffix(c.fixes, "none")
		if (out == isShort) != short || (out == isMended) == short || whole(w.real) != c.want || steps != c.steps || strings.Join(p.twin.fixes, ", ") != c.fixes {
			t.Errorf("P14.2: case %d: %s by %q, %s behind %d touches, not %s, %s behind %d", i, out, p.twin.fixes, whole(w.real), steps, c.fixes, c.want, c.steps)
		}
		if got, _ := found(w.real, keys); !slices.Equal(got, was) || w.real.Epochs.Limbo() != c.waits {
			t.Errorf("P14.2: case %d: keys are found with %v, not %v; %d nodes wait", i, got, was, w.real.Epochs.Limbo())
		}
		w.holdPlaces(t)
		w.noFaults(t)
		w.stop()
	}
}

// TestAnyRoom: all trees made by hand, with each number of places and of records: true just where something is still wrong.
func TestAnyRoom(t *testing.T) {
	t.Parallel()
	shorts := 0
	for _, c := range append(oneWrong(), manyWrong()...) {
		keys := c.tree.nearby()
		for left := range 10 {
			for records := range 4 {
				w := newBoth(t, setting{c.a, c.b, left, records}, c.tree)
				was, _ := found(w.real, keys)
				out, _ := w.start(pathJob(c.key)).runUnheld(t)
				if (out == isShort) != (wrongOn(w.real, c.key) != "") {
					t.Errorf("P14.2: %d places, %d records: %s, %s", left, records, out, whole(w.real))
				}
				if out == isShort {
					shorts++
				}
				if got, deep := found(w.real, keys); !slices.Equal(got, was) || deep < 0 {
					t.Errorf("P14.2: %d places, %d records: keys are found with %v, not %v", left, records, got, was)
				}
				w.holdPlaces(t)
				w.noFaults(t)
				w.stop()
			}
		}
	}
	if shorts < 100 {
		t.Errorf("P14.2: no room %d times", shorts)
	}
}

// TestRoomLater: what was short is done by a later Path, when there is room.
func TestRoomLater(t *testing.T) {
	n := twice()
	w := newBoth(t, setting{2, 3, 1, 9}, n)
	w.run(t, pathJob(10))
	for _, o := range n.nodes()[:1] {
		w.live = slices.DeleteFunc(w.live, func(r ref.Ref) bool { return r == o.ref })
		w.do(func(w *world.World) { w.Arena.Free(o.ref) })
	}
	if out, _ := w.run(t, pathJob(10)); out != isMended || whole(w.real) != "([10 11] 20 [20 21] 30 [30 31])" {
		t.Errorf("P14.2: %s, %s", out, whole(w.real))
	}
	w.noFaults(t)
}

// others are what others may do between two touches.
func others(l []ref.Ref, spare ref.Ref) []func(w *world.World) {
	out := []func(w *world.World){
		func(w *world.World) {},
		func(w *world.World) { w.Epochs.Swap(w.Epochs.Now()) },
		func(w *world.World) { w.Arena.Free(spare) },
		func(w *world.World) { w.Arena.Alloc(arena.Node{}) },
		func(w *world.World) {
			for w.Arena.Used() < w.Arena.Most() {
				w.Arena.Alloc(arena.Node{})
			}
		},
		func(w *world.World) {
			for w.Records.Len() < 9 {
				w.Records.Make(record.Record{})
			}
		},
	}
	for n := range int64(3) {
		for s := range record.States {
			out = append(out, func(w *world.World) { w.Records.Set(n+1, s) })
		}
		out = append(out, func(w *world.World) { w.Records.SetAll(n + 1) })
	}
	for _, r := range l {
		out = append(out, func(w *world.World) { w.Arena.SetMark(r) })
		for _, info := range []int64{0, 1, 2, 3, 55} {
			out = append(out, func(w *world.World) { w.Arena.SwapInfo(r, w.Arena.Info(r), info) })
		}
		for i := range 3 {
			out = append(out, func(w *world.World) { w.Arena.SwapWay(r, i, w.Arena.Way(r, i), spare) })
		}
	}
	return out
}

// setOthers is a world in which others are at the nodes: record 1 is done, 2 is going; one more node is spare.
func setOthers(t testing.TB, n *tree) (*both, []ref.Ref, ref.Ref) {
	w := newBoth(t, setting{2, 3, 5, 9}, n)
	l := []ref.Ref{w.real.Entry}
	for _, o := range n.nodes() {
		l = append(l, o.ref)
	}
	w.changeInfo(t, l[len(l)-1])
	w.make(t, record.Record{Nodes: l[:2], Infos: make([]int64, 2), Keep: 2})
	return w, l, w.add(t, lf("", 1, 10).node())
}

// TestWithOthersBetween: whatever others do ahead of any touch, all is as the chapter says.
func TestWithOthersBetween(t *testing.T) {
	t.Parallel()
	for i, made := range []func() *tree{tagged, leafRoot, meets, tagBelow} {
		t.Run(fmt.Sprint(i), func(t *testing.T) {
			t.Parallel()
			n := made()
			w, l, spare := setOthers(t, n)
			w.stop()
			for i := range others(l, spare) {
				for at, ended := 0, false; !ended; at++ {
					ended = holdOthers(t, made(), map[int]int{at: i}) <= at
				}
			}
		})
	}
}

// TestWithManyOthersBetween: several do something.
func TestWithManyOthersBetween(t *testing.T) {
	t.Parallel()
	r := rand.New(rand.NewSource(5))
	made := []func() *tree{tagged, leafRoot, tagRoot, meets, joins, shares, tagBelow, besideTagged, twice, climbs, splits}
	for range 2000 {
		l := map[int]int{}
		for range 2 + r.Intn(4) {
			l[r.Intn(80)] = r.Intn(1000)
		}
		holdOthers(t, made[r.Intn(len(made))](), l)
	}
}

// holdOthers mends a way, others doing something ahead of some touches: how many touches there were. Others may leave a node so that nobody can change it, so it may go on and on.
func holdOthers(t *testing.T, n *tree, between map[int]int) int {
	t.Helper()
	w, l, spare := setOthers(t, n)
	defer w.stop()
	what := others(l, spare)
	p := w.start(pathJob(10))
	steps := 0
	for ; steps < 200 && !p.ended(); steps++ {
		if i, ok := between[steps]; ok {
			w.do(what[i%len(what)])
		}
		p.stepUnheld()
	}
	w.live = slices.DeleteFunc(w.live, func(r ref.Ref) bool { return r == spare })
	p.hold(t)
	w.holdWaits(t)
	return steps
}
