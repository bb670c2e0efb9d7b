package degree

import (
	"fmt"
	"math"
	"math/rand"
	"slices"
	"strings"
	"testing"

	"boscage/arena"
	"boscage/record"
	"boscage/ref"
	"boscage/seek"
	"boscage/world"
)

// loaded are the nodes that a Fix of the node n loads, in order, and how many ways each has.
func (b *both) loaded(t testing.TB, n *tree) (l []ref.Ref, ways []int) {
	t.Helper()
	up, way := b.upTo(t, n.named("n").ref)
	above := up[len(up)-1].Ref
	if len(up) == 1 {
		l = []ref.Ref{above, n.ref, b.real.Arena.Way(n.ref, 0)}
	} else {
		left := max(0, way-1)
		l = []ref.Ref{up[len(up)-2].Ref, above, b.real.Arena.Way(above, left), b.real.Arena.Way(above, left+1)}
	}
	for _, r := range l {
		ways = append(ways, len(b.real.Arena.Look(r).Ways.Ways))
	}
	return l, ways
}

// loads is how many touches the Loads of some nodes have.
func loads(ways []int) int {
	n := 0
	for _, w := range ways {
		n += 5 + w
	}
	return n
}

// eachLoaded does something for each of the nodes that a Fix loads, in a world of its own each time.
func eachLoaded(t *testing.T, what func(w *both, c kind, n *tree, i int)) {
	t.Helper()
	for _, c := range all() {
		for i := range 4 {
			n := c.made()
			w := newBoth(t, plenty(2, 3), n)
			if l, _ := w.loaded(t, n); i < len(l) {
				what(w, c, n, i)
			}
			w.noFaults(t)
			w.stop()
		}
	}
}

// TestGone: each of the nodes that are loaded went: nothing is changed, and those behind it aren't loaded.
func TestGone(t *testing.T) {
	eachLoaded(t, func(w *both, _ kind, n *tree, i int) {
		l, ways := w.loaded(t, n)
		m := w.make(t, record.Record{Nodes: l[i : i+1], Infos: []int64{0}})
		w.do(func(w *world.World) {
			w.Arena.SwapInfo(l[i], 0, m)
			w.Arena.SetMark(l[i])
			w.Records.Set(m, record.Done)
		})
		// Mark, Info, State, Mark; State.
		w.holdNeither(t, w.fixing(t, n.named("n")), loads(ways[:i])+5)
	})
}

// TestBeingChanged: somebody is at one of the nodes: that is brought to its end, and nothing else is changed.
func TestBeingChanged(t *testing.T) {
	eachLoaded(t, func(w *both, _ kind, n *tree, i int) {
		l, ways := w.loaded(t, n)
		m := w.make(t, record.Record{Nodes: l[i : i+1], Infos: []int64{0}, Keep: 1})
		w.do(func(w *world.World) { w.Arena.SwapInfo(l[i], 0, m) })
		was, used := whole(w.real), w.real.Arena.Used()
		// Mark, Info, State, Mark, State; SwapInfo, Info, SetAll, SwapWay, Set; Info, State.
		want := loads(ways[:i]) + 12
		if out, steps := w.run(t, w.fixing(t, n.named("n"))); out != isNeither || steps != want {
			t.Errorf("P13.1: somebody is at node %d of %s: %s behind %d touches, not neither behind %d", i, was, out, steps, want)
		}
		if whole(w.real) != was || w.real.Arena.Used() != used || w.real.Records.Len() != 1 || w.real.Records.State(m) != record.Done || w.real.Epochs.Limbo() != 0 {
			t.Errorf("P13.1: somebody is at node %d of %s: it is %s then, %d records", i, was, whole(w.real), w.real.Records.Len())
		}
	})
}

// TestChangedAheadOfLoad: somebody changes one of the nodes, which goes on having its place, ahead of its Load: that is no hindrance.
func TestChangedAheadOfLoad(t *testing.T) {
	eachLoaded(t, func(w *both, c kind, n *tree, i int) {
		alone := newBoth(t, plenty(2, 3), c.made())
		up, way := w.upTo(t, n.named("n").ref)
		alone.run(t, fixJob(up, way, n.named("n").ref))
		l, ways := w.loaded(t, n)
		p := w.start(w.fixing(t, n.named("n")))
		for range loads(ways[:i]) {
			p.step(t)
		}
		w.changeInfo(t, l[i])
		if out, _ := p.run(t); out != isDone || whole(w.real) != whole(alone.real) {
			t.Errorf("P13.1: node %d was changed ahead of its Load: %s, %s, not %s", i, out, whole(w.real), whole(alone.real))
		}
	})
}

// changeInfo gives a node another record, that is done.
func (b *both) changeInfo(t testing.TB, r ref.Ref) {
	t.Helper()
	n := b.make(t, record.Record{Nodes: []ref.Ref{r}, Infos: []int64{b.real.Arena.Info(r)}, Keep: 1})
	b.do(func(w *world.World) {
		w.Arena.SwapInfo(r, w.Arena.Info(r), n)
		w.Records.SetAll(n)
		w.Records.Set(n, record.Done)
	})
}

// TestChangedBehindLoad: somebody changes one of the nodes behind its Load, ahead of any touch up to that by which Store takes it: nothing is changed by Fix, and all that it made is freed.
func TestChangedBehindLoad(t *testing.T) {
	eachLoaded(t, func(w *both, c kind, n *tree, i int) {
		_, ways := w.loaded(t, n)
		// The nodes' Loads, what is made, the record, SwapInfo of those ahead of it.
		last := loads(ways) + c.makes + 1 + i
		for at := loads(ways[:i+1]); at <= last; at++ {
			holdChanged(t, c, i, at, last)
		}
	})
}

// holdChanged changes node i of those that are loaded behind some touches; last is how many there are up to where Store is to take it.
func holdChanged(t *testing.T, c kind, i, at, last int) {
	t.Helper()
	n := c.made()
	w := newBoth(t, plenty(2, 3), n)
	defer w.stop()
	l, _ := w.loaded(t, n)
	was, used := whole(w.real), w.real.Arena.Used()
	p := w.start(w.fixing(t, n.named("n")))
	for range at {
		p.stepUnheld()
	}
	w.changeInfo(t, l[i])
	// SwapInfo, Info, All, Set; Free of each.
	want := last + 4 + c.makes
	if out, steps := p.run(t); out != isNeither || steps != want {
		t.Errorf("P13.1: node %d was changed behind %d touches: %s behind %d touches, not neither behind %d", i, at, out, steps, want)
	}
	if whole(w.real) != was || w.real.Arena.Used() != used || w.real.Epochs.Limbo() != 0 {
		t.Errorf("P13.1: node %d was changed behind %d touches: it is %s, %d places are used, %d nodes wait", i, at, whole(w.real), w.real.Arena.Used(), w.real.Epochs.Limbo())
	}
	for _, o := range w.live {
		if w.real.Arena.Mark(o) {
			t.Errorf("P13.1: node %d was changed behind %d touches: %s is marked", i, at, w.name(o))
		}
	}
	w.noFaults(t)
}

// freedAs holds in which order places were freed last: they are used again in that order.
func (b *both) freedAs(t testing.TB, places ...int) {
	t.Helper()
	for _, want := range places {
		if r, _ := b.real.Arena.Alloc(arena.Node{}); r.Place() != want {
			t.Errorf("P13.1: place %d was freed, not %d", r.Place(), want)
		}
	}
}

// placesOf are so many places, of the nodes made first behind a tree.
func placesOf(n *tree, many int) []int {
	var out []int
	for i := range many {
		out = append(out, len(n.nodes())+1+i)
	}
	return out
}

// TestFreedInOrder: what was made is freed in the order of Make, where Store isn't done.
func TestFreedInOrder(t *testing.T) {
	for _, c := range all() {
		n := c.made()
		w := newBoth(t, setting{2, 3, c.makes, 3}, n)
		l, ways := w.loaded(t, n)
		p := w.start(w.fixing(t, n.named("n")))
		for range loads(ways) {
			p.step(t)
		}
		w.changeInfo(t, l[0])
		want := strings.Repeat("Alloc, ", c.makes) + "Record, SwapInfo " + w.name(l[0]) + ", Info " + w.name(l[0]) + ", All, Set, "
		places := placesOf(n, c.makes)
		for _, i := range places {
			want += fmt.Sprintf("Free #%d, ", i)
		}
		p.run(t)
		if got := p.twin.touches(); !strings.HasSuffix(got, want) {
			t.Errorf("P13.1: the touches are %s, not %s", got, want)
		}
		w.freedAs(t, places...)
	}
}

// holdNeither does a job that is to change nothing.
func (b *both) holdNeither(t testing.TB, j job, touches int) {
	t.Helper()
	was := b.dump(b.real)
	if out, steps := b.run(t, j); out != isNeither || steps != touches {
		t.Errorf("P13.1: %s behind %d touches in %s, not neither behind %d", out, steps, whole(b.real), touches)
	}
	if b.dump(b.real) != was {
		t.Errorf("P13.1: something changed:\n%s\n%s", was, b.dump(b.real))
	}
	b.noFaults(t)
}

// TestNotThere: p isn't the way of g that up tells, or the node isn't that way of p (of the entry): g and p (the entry and the node) are loaded, and nothing is changed.
func TestNotThere(t *testing.T) {
	ways := []int{0, 1, 2, 3, -1, -2, 1 << 32, math.MinInt64, math.MaxInt64}
	for _, c := range all() {
		for _, wrong := range ways {
			for _, ofG := range []bool{false, true} {
				n := c.made()
				w := newBoth(t, plenty(2, 3), n)
				_, size := w.loaded(t, n)
				up, way := w.upTo(t, n.named("n").ref)
				if ofG && len(up) < 2 {
					continue
				}
				at := &way
				if ofG {
					at = &up[len(up)-2].Way
				}
				if *at == wrong {
					continue
				}
				*at = wrong
				w.holdNeither(t, fixJob(up, way, n.named("n").ref), loads(size[:2]))
			}
		}
	}
}

// TestOtherNodes: another node of the tree than the one that is there.
func TestOtherNodes(t *testing.T) {
	for _, c := range all() {
		n := c.made()
		w := newBoth(t, plenty(2, 3), n)
		_, size := w.loaded(t, n)
		up, way := w.upTo(t, n.named("n").ref)
		if len(up) < 2 {
			continue
		}
		for _, o := range n.nodes() {
			if o.name != "n" {
				w.holdNeither(t, fixJob(up, way, o.ref), loads(size[:2]))
			}
		}
		// p is another one than g's way leads to.
		for _, o := range n.named("p").below {
			other := append(slices.Clone(up[:len(up)-1]), seek.Step{Ref: o.ref, Node: w.real.Arena.Look(o.ref)})
			w.holdNeither(t, fixJob(other, 0, n.named("n").ref), loads([]int{size[0], len(o.below)}))
		}
	}
}

// TestNotThereAnyMore: a way goes somewhere else, when it is loaded: g's way that up tells, or p's to the node.
func TestNotThereAnyMore(t *testing.T) {
	for _, c := range all() {
		for from := range 2 {
			for _, later := range []bool{false, true} {
				n := c.made()
				w := newBoth(t, plenty(2, 3), n)
				l, size := w.loaded(t, n)
				up, way := w.upTo(t, n.named("n").ref)
				if from == len(up) {
					// Where the root leads isn't told by up.
					continue
				}
				p := w.start(fixJob(up, way, n.named("n").ref))
				if later {
					// Just ahead of the touches of its ways.
					for range loads(size[:from]) + 4 {
						p.step(t)
					}
				}
				at := up[max(0, len(up)-2)+from].Way
				w.leads(l[from], at, w.add(t, run("", 77, 1).node()))
				was := w.dump(w.real)
				if out, steps := p.run(t); out != isNeither || steps != loads(size[:2]) || w.dump(w.real) != was {
					t.Errorf("P13.1: way %d goes somewhere else: %s behind %d touches", at, out, steps)
				}
				w.noFaults(t)
			}
		}
	}
}

// TestNotOneWay: a root that has more ways than one, or is a leaf, stays; what is below isn't loaded.
func TestNotOneWay(t *testing.T) {
	for _, n := range []*tree{wide("n", 10, 2), wide("n", 10, 3), wide("n", 10, 32), lf("n"), run("n", 10, 1), run("n", 10, 3)} {
		w := newBoth(t, plenty(2, 3), n)
		w.holdNeither(t, w.fixing(t, n), 6+5+len(n.below))
	}
}

// TestUnlike: a leaf beside an inner node, or the node is tagged: both are loaded, and nothing is changed.
func TestUnlike(t *testing.T) {
	for _, n := range []*tree{
		over("p", run("n", 10, 1), wide("s", 20, 2)),
		over("p", wide("s", 10, 2), run("n", 30, 1)),
		over("p", wide("n", 10, 1), run("s", 20, 2)),
		over("p", run("s", 10, 3), wide("n", 20, 1)),
		over("p", run("n", 10, 1).tag(), run("s", 20, 2)),
		over("p", run("s", 10, 3), run("n", 20, 1).tag(), run("r", 30, 1)),
		over("p", wide("n", 10, 1).tag(), wide("s", 20, 2)),
		over("p", wide("s", 10, 3), wide("n", 40, 1).tag()),
		over("p", run("n", 10, 1).tag(), wide("s", 20, 2)),
		over("g", over("p", run("n", 10, 1), wide("s", 20, 2)), wide("q", 40, 2)),
		over("g", wide("q", 10, 2), over("p", wide("s", 30, 2), wide("n", 50, 1).tag())),
	} {
		w := newBoth(t, plenty(2, 3), n)
		_, size := w.loaded(t, n)
		w.holdNeither(t, w.fixing(t, n.named("n")), loads(size))
	}
}

// TestNoRoom: as many places as are left, up to as many as are needed.
func TestNoRoom(t *testing.T) {
	// The touches behind the Loads, by how many nodes are to be made, and how many places are left: both halves are made whether there is room or not, the third one only if there was; then those that are there are freed.
	behind := [][]int{nil, {1}, {1, 2 + 1}, {2, 2 + 1, 3 + 2}}
	for _, c := range all() {
		for left := range c.makes + 1 {
			n := c.made()
			w := newBoth(t, setting{2, 3, left, 9}, n)
			_, size := w.loaded(t, n)
			was := w.dump(w.real)
			out, steps := w.run(t, w.fixing(t, n.named("n")))
			w.noFaults(t)
			if left == c.makes {
				if out != isDone {
					t.Errorf("P13.1: %d places are left: %s", left, out)
				}
				continue
			}
			if want := loads(size) + behind[c.makes][left]; out != isNone || steps != want || w.dump(w.real) != was {
				t.Errorf("P13.1: %d places are left: %s behind %d touches, not none behind %d", left, out, steps, want)
			}
			w.freedAs(t, placesOf(n, left)...)
		}
	}
}

// TestRoomBetween: while the nodes are made, somebody frees places, or uses them; what is free ahead of each Make is told.
func TestRoomBetween(t *testing.T) {
	for _, c := range []struct {
		makes int
		free  [3]int // ahead of each Make; below 0: none is used or freed
		out   string
		last  string // the touches behind the Loads
	}{
		{1, [3]int{1, -1, -1}, isDone, "Alloc, Record, "},
		{1, [3]int{0, 1, -1}, isNone, "Alloc, "},
		{2, [3]int{2, -1, -1}, isDone, "Alloc, Alloc, Record, "},
		{2, [3]int{1, 1, -1}, isDone, "Alloc, Alloc, Record, "},
		{2, [3]int{1, -1, -1}, isNone, "Alloc, Alloc, Free, "},
		{2, [3]int{3, 0, -1}, isNone, "Alloc, Alloc, Free, "},
		{2, [3]int{1, 0, 1}, isNone, "Alloc, Alloc, Free, "},
		{3, [3]int{3, -1, -1}, isDone, "Alloc, Alloc, Alloc, Record, "},
		{3, [3]int{0, -1, -1}, isNone, "Alloc, Alloc, "},
		{3, [3]int{0, 1, -1}, isNone, "Alloc, Alloc, Free, "},
		{3, [3]int{0, 2, -1}, isNone, "Alloc, Alloc, Free, "},
		{3, [3]int{0, 3, 3}, isNone, "Alloc, Alloc, Free, "},
		{3, [3]int{1, 0, -1}, isNone, "Alloc, Alloc, Free, "},
		{3, [3]int{1, 0, 3}, isNone, "Alloc, Alloc, Free, "},
		{3, [3]int{1, 1, -1}, isNone, "Alloc, Alloc, Alloc, Free, Free, "},
		{3, [3]int{1, 1, 1}, isDone, "Alloc, Alloc, Alloc, Record, "},
		{3, [3]int{1, 2, -1}, isDone, "Alloc, Alloc, Alloc, Record, "},
		{3, [3]int{3, 3, 0}, isNone, "Alloc, Alloc, Alloc, Free, Free, "},
		{3, [3]int{2, -1, -1}, isNone, "Alloc, Alloc, Alloc, Free, Free, "},
		{3, [3]int{2, -1, 1}, isDone, "Alloc, Alloc, Alloc, Record, "},
	} {
		for _, k := range all() {
			if k.makes == c.makes {
				holdRoom(t, k, c.free, c.out, c.last)
			}
		}
	}
}

func holdRoom(t *testing.T, k kind, free [3]int, out, last string) {
	t.Helper()
	n := k.made()
	w := newBoth(t, setting{2, 3, 9, 9}, n)
	_, size := w.loaded(t, n)
	var spare []ref.Ref
	for range 9 {
		spare = append(spare, w.add(t, arena.Node{}))
	}
	p := w.start(w.fixing(t, n.named("n")))
	for i := 0; !p.ended(); i++ {
		if m := i - loads(size); 0 <= m && m < 3 && free[m] >= 0 {
			spare = w.leave(t, spare, free[m])
		}
		p.step(t)
	}
	got := behind(p.twin.touches(), loads(size))
	if p.out != out || !strings.HasPrefix(got, last) || out == isNone && got != last {
		t.Errorf("P13.1: with %v places free: %s, %s, not %s, %s", free, p.out, got, out, last)
	}
	w.noFaults(t)
}

// leave frees, or uses, places till so many are free.
func (b *both) leave(t testing.TB, spare []ref.Ref, free int) []ref.Ref {
	t.Helper()
	for b.real.Arena.Most()-b.real.Arena.Used() > free {
		spare = append(spare, b.add(t, arena.Node{}))
	}
	for b.real.Arena.Most()-b.real.Arena.Used() < free {
		r := spare[len(spare)-1]
		spare = spare[:len(spare)-1]
		b.live = slices.DeleteFunc(b.live, func(o ref.Ref) bool { return o == r })
		b.do(func(w *world.World) { w.Arena.Free(r) })
	}
	return spare
}

// behind is the touches behind the first n, without the places of those that were freed.
func behind(touches string, n int) string {
	out := ""
	for i, name := range strings.SplitAfter(touches, ", ") {
		if i < n || name == "" {
			continue
		}
		if strings.HasPrefix(name, "Free") {
			name = "Free, "
		}
		out += name
	}
	return out
}

// TestNoRecord: no record is left: none, and what was made is freed; the last one that may be is enough.
func TestNoRecord(t *testing.T) {
	for _, c := range all() {
		for records := range 3 {
			n := c.made()
			w := newBoth(t, setting{2, 3, 3, records}, n)
			for range records {
				w.make(t, record.Record{})
			}
			_, size := w.loaded(t, n)
			was := w.dump(w.real)
			want := loads(size) + 2*c.makes + 1
			if out, steps := w.run(t, w.fixing(t, n.named("n"))); out != isNone || steps != want || w.dump(w.real) != was {
				t.Errorf("P13.1: no record is left: %s behind %d touches, not none behind %d", out, steps, want)
			}
			w.freedAs(t, placesOf(n, c.makes)...)
			w.noFaults(t)
		}
		n := c.made()
		w := newBoth(t, setting{2, 3, 3, 2}, n)
		w.make(t, record.Record{})
		if out, _ := w.run(t, w.fixing(t, n.named("n"))); out != isDone {
			t.Errorf("P13.1: one record is left: %s", out)
		}
	}
}

// TestLeaveByEpochs: what goes waits, each from the epoch in which its own Leave is; the thread that fixed lets it go.
func TestLeaveByEpochs(t *testing.T) {
	for _, c := range []struct {
		made func() *tree
		left string
	}{{leafRoot, " 1:n@4 1:s@6"}, {meets, " 1:p@4 1:n@6 1:s@8"}, {joinsDeep, " 1:p@4 1:s@6 1:n@8"}, {sharesInner, " 1:p@4 1:s@6 1:n@8"}} {
		n := c.made()
		w := newBoth(t, plenty(2, 3), n)
		w.run(t, mendJob(0, 0)) // by thread 0, which has nothing to do
		p := w.start(w.fixing(t, n.named("n")))
		for !p.ended() {
			// What was told by Now holds, whatever the epoch is by Leave.
			if name := p.twin.ahead; name == "Now" || strings.HasPrefix(name, "Leave") {
				w.do(func(w *world.World) { w.Epochs.Swap(w.Epochs.Now()) })
			}
			p.step(t)
		}
		if left := w.holdWaits(t); left != c.left {
			t.Errorf("P13.1: there wait%s, not%s", left, c.left)
		}
	}
}

// others are what others may do between two touches.
func others(l []ref.Ref, spare ref.Ref) []func(w *world.World) {
	out := []func(w *world.World){
		func(w *world.World) {},
		func(w *world.World) { w.Epochs.Swap(w.Epochs.Now()) },
		func(w *world.World) { w.Arena.Free(spare) },
		func(w *world.World) { w.Arena.Alloc(arena.Node{}) },
		func(w *world.World) {
			for w.Arena.Used() < w.Arena.Most() {
				w.Arena.Alloc(arena.Node{})
			}
		},
		func(w *world.World) {
			for w.Records.Len() < 9 {
				w.Records.Make(record.Record{})
			}
		},
	}
	for n := range int64(3) {
		for s := range record.States {
			out = append(out, func(w *world.World) { w.Records.Set(n+1, s) })
		}
		out = append(out, func(w *world.World) { w.Records.SetAll(n + 1) })
	}
	for _, r := range l {
		out = append(out, func(w *world.World) { w.Arena.SetMark(r) })
		for _, info := range []int64{0, 1, 2, 3, 55} {
			out = append(out, func(w *world.World) { w.Arena.SwapInfo(r, w.Arena.Info(r), info) })
		}
		for i := range 3 {
			out = append(out, func(w *world.World) { w.Arena.SwapWay(r, i, w.Arena.Way(r, i), spare) })
		}
	}
	return out
}

// setOthers is a world in which others are at the nodes that are loaded: record 1 is done, 2 is going; one more node is spare.
func setOthers(t testing.TB, n *tree) (*both, []ref.Ref, ref.Ref) {
	w := newBoth(t, setting{2, 3, 5, 9}, n)
	l, _ := w.loaded(t, n)
	w.changeInfo(t, l[len(l)-1])
	w.make(t, record.Record{Nodes: l, Infos: make([]int64, len(l)), Keep: len(l)})
	return w, l, w.add(t, arena.Node{})
}

// TestWithOthersBetween: whatever others do ahead of any touch, all is as the chapter says.
func TestWithOthersBetween(t *testing.T) {
	t.Parallel()
	for _, made := range []func() *tree{innerRoot, meetsInner, joins, shares, besideTagged()[0]} {
		n := made()
		w, l, spare := setOthers(t, n)
		w.stop()
		for i := range others(l, spare) {
			for at, ended := 0, false; !ended; at++ {
				ended = holdOthers(t, made(), map[int]int{at: i}) <= at
			}
		}
	}
}

// TestWithManyOthersBetween: several do something.
func TestWithManyOthersBetween(t *testing.T) {
	t.Parallel()
	r := rand.New(rand.NewSource(5))
	made := besideTagged()
	for _, c := range all() {
		made = append(made, c.made)
	}
	for range 4000 {
		l := map[int]int{}
		for range 2 + r.Intn(4) {
			l[r.Intn(60)] = r.Intn(1000)
		}
		holdOthers(t, made[r.Intn(len(made))](), l)
	}
}

// holdOthers fixes a node, others doing something ahead of some touches: how many touches there were.
func holdOthers(t *testing.T, n *tree, between map[int]int) int {
	t.Helper()
	w, l, spare := setOthers(t, n)
	defer w.stop()
	what := others(l, spare)
	p := w.start(w.fixing(t, n.named("n")))
	for k := 0; !p.ended(); k++ {
		if i, ok := between[k]; ok {
			w.do(what[i%len(what)])
		}
		p.stepUnheld()
	}
	w.live = slices.DeleteFunc(w.live, func(r ref.Ref) bool { return r == spare })
	p.hold(t)
	w.holdWaits(t)
	return p.real.Steps()
}

// TestHandedInStays: up is neither changed nor kept, spare room included.
func TestHandedInStays(t *testing.T) {
	for _, c := range all() {
		n := c.made()
		w := newBoth(t, plenty(2, 3), n)
		l, way := w.upTo(t, n.named("n").ref)
		up := append(make([]seek.Step, 0, 9), l...)
		for i := len(l); i < 9; i++ {
			up[:9][i] = seek.Step{Ref: -7, Way: i}
		}
		was := tell(up[:9])
		if out := fixAlone(t, w.real, up, way, n.named("n").ref); out != isDone || tell(up[:9]) != was {
			t.Errorf("P2, R6: %s, and up is %s, not %s", out, tell(up[:9]), was)
		}
		all := whole(w.real)
		for _, s := range up {
			clear(s.Node.Ways.Keys)
			clear(s.Node.Ways.Ways)
		}
		clear(up)
		if whole(w.real) != all {
			t.Errorf("P2, R6: %s is %s when up is changed", all, whole(w.real))
		}
	}
}
