package tag

import (
	"fmt"
	"math"
	"math/rand"
	"slices"
	"strings"
	"testing"

	"boscage/arena"
	"boscage/inner"
	"boscage/leaf"
	"boscage/record"
	"boscage/ref"
	"boscage/seek"
	"boscage/thread"
	"boscage/world"
)

// all are trees of each kind that Fix goes by.
func all() []func() *tree { return []func() *tree{asRoot, fits, splits, deep, deepFits} }

// loaded are the nodes that a Fix of the node n loads, in order, and how many ways each has.
func (b *both) loaded(t testing.TB, n *tree) (l []ref.Ref, ways []int) {
	t.Helper()
	up, _ := b.upTo(t, n.named("n"))
	for _, s := range up[max(0, len(up)-2):] {
		l = append(l, s.Ref)
	}
	l = append(l, n.named("n").ref)
	for _, r := range l {
		ways = append(ways, len(b.real.Arena.Look(r).Ways.Ways))
	}
	return l, ways
}

// loads is how many touches the Loads of some nodes have.
func loads(ways []int) int {
	n := 0
	for _, w := range ways {
		n += 5 + w
	}
	return n
}

// makes is how many nodes a Fix of a tree makes, B being 3.
func makes(n *tree) int {
	if p := n.named("p"); p != nil && len(p.below) == 3 {
		return 3
	}
	return 1
}

// TestGone: each of the nodes that are loaded went: nothing is changed, and those behind it aren't loaded.
func TestGone(t *testing.T) {
	for _, made := range all() {
		for i := range 3 {
			n := made()
			w := newBoth(t, plenty(3), n)
			l, ways := w.loaded(t, n)
			if i >= len(l) {
				continue
			}
			m := w.make(t, record.Record{Nodes: l[i : i+1], Infos: []int64{0}})
			w.do(func(w *world.World) {
				w.Arena.SwapInfo(l[i], 0, m)
				w.Arena.SetMark(l[i])
				w.Records.Set(m, record.Done)
			})
			was := w.dump(w.real)
			// Mark, Info, State, Mark; State.
			want := loads(ways[:i]) + 5
			if out, steps := w.run(t, w.fixing(t, n.named("n"))); out != isNeither || steps != want || w.dump(w.real) != was {
				t.Errorf("P12.1: node %d of %s went: %s behind %d touches, not neither behind %d", i, whole(w.real), out, steps, want)
			}
			w.noFaults(t)
		}
	}
}

// TestBeingChanged: somebody is at one of the nodes: that is brought to its end, and nothing else is changed.
func TestBeingChanged(t *testing.T) {
	for _, made := range all() {
		for i := range 3 {
			n := made()
			w := newBoth(t, plenty(3), n)
			l, ways := w.loaded(t, n)
			if i >= len(l) {
				continue
			}
			m := w.make(t, record.Record{Nodes: l[i : i+1], Infos: []int64{0}, Keep: 1})
			w.do(func(w *world.World) { w.Arena.SwapInfo(l[i], 0, m) })
			was, used := whole(w.real), w.real.Arena.Used()
			// Mark, Info, State, Mark, State; SwapInfo, Info, SetAll, SwapWay, Set; Info, State.
			want := loads(ways[:i]) + 12
			if out, steps := w.run(t, w.fixing(t, n.named("n"))); out != isNeither || steps != want {
				t.Errorf("P12.1: somebody is at node %d of %s: %s behind %d touches, not neither behind %d", i, was, out, steps, want)
			}
			if whole(w.real) != was || w.real.Arena.Used() != used || w.real.Records.Len() != 1 || w.real.Records.State(m) != record.Done || w.real.Epochs.Limbo() != 0 {
				t.Errorf("P12.1: somebody is at node %d of %s: it is %s then, %d records", i, was, whole(w.real), w.real.Records.Len())
			}
			w.noFaults(t)
		}
	}
}

// TestChangedAheadOfLoad: somebody changes one of the nodes, which goes on having its place, ahead of its Load: that is no hindrance.
func TestChangedAheadOfLoad(t *testing.T) {
	for _, made := range all() {
		n := made()
		w := newBoth(t, plenty(3), n)
		w.run(t, w.fixing(t, n.named("n")))
		want := whole(w.real)
		for i := range 3 {
			n := made()
			w := newBoth(t, plenty(3), n)
			l, ways := w.loaded(t, n)
			if i >= len(l) {
				continue
			}
			p := w.start(w.fixing(t, n.named("n")))
			for range loads(ways[:i]) {
				p.step(t)
			}
			w.changeInfo(t, l[i])
			if out, _ := p.run(t); out != isDone || whole(w.real) != want {
				t.Errorf("P12.1: node %d was changed ahead of its Load: %s, %s, not %s", i, out, whole(w.real), want)
			}
			w.noFaults(t)
		}
	}
}

// changeInfo gives a node another record, that is done.
func (b *both) changeInfo(t testing.TB, r ref.Ref) {
	t.Helper()
	n := b.make(t, record.Record{Nodes: []ref.Ref{r}, Infos: []int64{b.real.Arena.Info(r)}, Keep: 1})
	b.do(func(w *world.World) {
		w.Arena.SwapInfo(r, w.Arena.Info(r), n)
		w.Records.SetAll(n)
		w.Records.Set(n, record.Done)
	})
}

// TestChangedBehindLoad: somebody changes one of the nodes behind its Load, ahead of any touch up to that by which Store takes it: nothing is changed by Fix, and all that it made is freed.
func TestChangedBehindLoad(t *testing.T) {
	for _, made := range all() {
		for i := range 3 {
			for ahead := 0; ; ahead++ {
				n := made()
				w := newBoth(t, plenty(3), n)
				l, ways := w.loaded(t, n)
				// The nodes' Loads, what is made, the record, SwapInfo of those ahead of it.
				last := loads(ways) + makes(n) + 1 + min(i, len(l))
				at := loads(ways[:min(i+1, len(l))]) + ahead
				if i >= len(l) || at > last {
					break
				}
				was, used := whole(w.real), w.real.Arena.Used()
				p := w.start(w.fixing(t, n.named("n")))
				for range at {
					p.step(t)
				}
				w.changeInfo(t, l[i])
				// SwapInfo, Info, All, Set; Free of each.
				want := last + 4 + makes(n)
				if out, steps := p.run(t); out != isNeither || steps != want {
					t.Errorf("P12.1: node %d was changed behind %d touches: %s behind %d touches, not neither behind %d", i, at, out, steps, want)
				}
				if whole(w.real) != was || w.real.Arena.Used() != used || w.real.Epochs.Limbo() != 0 {
					t.Errorf("P12.1: node %d was changed behind %d touches: it is %s, %d places are used, %d nodes wait", i, at, whole(w.real), w.real.Arena.Used(), w.real.Epochs.Limbo())
				}
				for _, o := range w.live {
					if w.real.Arena.Mark(o) {
						t.Errorf("P12.1: node %d was changed behind %d touches: %s is marked", i, at, w.name(o))
					}
				}
				w.noFaults(t)
				w.stop()
			}
		}
	}
}

// freedAs holds in which order places were freed last: they are used again in that order.
func (b *both) freedAs(t testing.TB, places ...int) {
	t.Helper()
	for _, want := range places {
		if r, _ := b.real.Arena.Alloc(arena.Node{}); r.Place() != want {
			t.Errorf("P12.1: place %d was freed, not %d", r.Place(), want)
		}
	}
}

// TestFreedInOrder: what was made is freed in the order of Make, where Store isn't done.
func TestFreedInOrder(t *testing.T) {
	for _, c := range []struct {
		made   func() *tree
		places []int
	}{{asRoot, []int{4}}, {fits, []int{6}}, {splits, []int{7, 8, 9}}} {
		n := c.made()
		w := newBoth(t, setting{3, makes(n), 3}, n)
		l, ways := w.loaded(t, n)
		p := w.start(w.fixing(t, n.named("n")))
		for range loads(ways) {
			p.step(t)
		}
		w.changeInfo(t, l[0])
		want := "Record, SwapInfo entry, Info entry, All, Set, "
		for _, i := range c.places {
			want = "Alloc, " + want + fmt.Sprintf("Free #%d, ", i)
		}
		p.run(t)
		if got := p.twin.touches(); !strings.HasSuffix(got, want) {
			t.Errorf("P12.1: the touches are %s, not %s", got, want)
		}
		w.freedAs(t, c.places...)
	}
}

// TestNotThere: p isn't the way of g that up tells, or the node isn't that way of p: all are loaded, and nothing is changed.
func TestNotThere(t *testing.T) {
	ways := []int{0, 1, 2, 3, -1, -2, 1 << 32, math.MinInt64, math.MaxInt64}
	for _, made := range all() {
		for _, way := range ways {
			for _, ofG := range []bool{false, true} {
				n := made()
				w := newBoth(t, plenty(3), n)
				_, size := w.loaded(t, n)
				up, at := w.upTo(t, n.named("n"))
				if ofG && (len(up) < 2 || up[len(up)-2].Way == way) || !ofG && at == way {
					continue
				}
				if ofG {
					up[len(up)-2].Way = way
				} else {
					at = way
				}
				w.holdNeither(t, fixJob(up, at, n.named("n").ref), loads(size))
			}
		}
	}
}

// holdNeither does a job that is to change nothing.
func (b *both) holdNeither(t testing.TB, j job, touches int) {
	t.Helper()
	was := b.dump(b.real)
	if out, steps := b.run(t, j); out != isNeither || steps != touches {
		t.Errorf("P12.1: %s behind %d touches, not neither behind %d", out, steps, touches)
	}
	if b.dump(b.real) != was {
		t.Errorf("P12.1: something changed:\n%s\n%s", was, b.dump(b.real))
	}
	b.noFaults(t)
}

// TestNotThereAnyMore: a way goes somewhere else, when it is loaded: g's way that up tells, or p's to the node.
func TestNotThereAnyMore(t *testing.T) {
	for _, made := range all() {
		for _, ofG := range []bool{false, true} {
			for _, later := range []bool{false, true} {
				n := made()
				w := newBoth(t, plenty(3), n)
				l, size := w.loaded(t, n)
				up, way := w.upTo(t, n.named("n"))
				from := len(l) - 2
				if ofG {
					from--
				}
				if from < 0 {
					continue
				}
				j := w.start(fixJob(up, way, n.named("n").ref))
				if later {
					// Just ahead of the touches of its ways.
					for range loads(size[:from]) + 4 {
						j.step(t)
					}
				}
				at := up[len(up)-len(l)+1+from].Way
				w.leads(l[from], at, w.add(t, lf(77).node()))
				was := w.dump(w.real)
				if out, steps := j.run(t); out != isNeither || steps != loads(size) || w.dump(w.real) != was {
					t.Errorf("P12.1: way %d goes somewhere else: %s behind %d touches", at, out, steps)
				}
				w.noFaults(t)
			}
		}
	}
}

// TestAboveIsTagged: nothing is done where p is tagged, be it the root or not.
func TestAboveIsTagged(t *testing.T) {
	for _, made := range []func() *tree{fits, splits, deep, deepFits} {
		for b := 3; b <= 5; b++ {
			n := made()
			n.named("p").tag()
			w := newBoth(t, plenty(b), n)
			_, size := w.loaded(t, n)
			w.holdNeither(t, w.fixing(t, n.named("n")), loads(size))
		}
	}
}

// TestNoRoom: as many places as are left, up to as many as are needed.
func TestNoRoom(t *testing.T) {
	for _, made := range all() {
		for left := range makes(made()) + 1 {
			n := made()
			w := newBoth(t, setting{3, left, 9}, n)
			_, size := w.loaded(t, n)
			was := w.dump(w.real)
			out, steps := w.run(t, w.fixing(t, n.named("n")))
			if left == makes(n) {
				if out != isDone {
					t.Errorf("P12.1: %d places are left: %s", left, out)
				}
				continue
			}
			// Both halves are made whether there is room or not, the third one only if there was; then those that are there are freed.
			want := loads(size) + []int{1, 1, 2, 3}[makes(n)]
			if makes(n) == 3 {
				want = loads(size) + []int{2, 2 + 1, 3 + 2}[left]
			}
			if out != isNone || steps != want || w.dump(w.real) != was {
				t.Errorf("P12.1: %d places are left: %s behind %d touches, not none behind %d", left, out, steps, want)
			}
			if left == 2 {
				w.freedAs(t, len(n.nodes())+1, len(n.nodes())+2)
			}
			w.noFaults(t)
		}
	}
}

// TestRoomBetween: while the nodes are made, somebody frees places, or uses them; what is free ahead of each Make is told.
func TestRoomBetween(t *testing.T) {
	for _, c := range []struct {
		free [3]int // ahead of each Make; below 0: none is used or freed
		out  string
		last string // the touches behind the Loads
	}{
		{[3]int{3, -1, -1}, isDone, "Alloc, Alloc, Alloc, Record, "},
		{[3]int{0, -1, -1}, isNone, "Alloc, Alloc, "},
		{[3]int{0, 1, -1}, isNone, "Alloc, Alloc, Free, "},
		{[3]int{0, 2, -1}, isNone, "Alloc, Alloc, Free, "},
		{[3]int{0, 3, 3}, isNone, "Alloc, Alloc, Free, "},
		{[3]int{1, 0, -1}, isNone, "Alloc, Alloc, Free, "},
		{[3]int{1, 0, 3}, isNone, "Alloc, Alloc, Free, "},
		{[3]int{1, 1, -1}, isNone, "Alloc, Alloc, Alloc, Free, Free, "},
		{[3]int{1, 1, 1}, isDone, "Alloc, Alloc, Alloc, Record, "},
		{[3]int{1, 2, -1}, isDone, "Alloc, Alloc, Alloc, Record, "},
		{[3]int{3, 3, 0}, isNone, "Alloc, Alloc, Alloc, Free, Free, "},
		{[3]int{2, -1, -1}, isNone, "Alloc, Alloc, Alloc, Free, Free, "},
		{[3]int{2, -1, 1}, isDone, "Alloc, Alloc, Alloc, Record, "},
	} {
		for _, made := range []func() *tree{splits, deep} {
			n := made()
			w := newBoth(t, setting{3, 9, 9}, n)
			_, size := w.loaded(t, n)
			var spare []ref.Ref
			for range 9 {
				spare = append(spare, w.add(t, arena.Node{}))
			}
			p := w.start(w.fixing(t, n.named("n")))
			for i := 0; !p.ended(); i++ {
				if k := i - loads(size); 0 <= k && k < 3 && c.free[k] >= 0 {
					spare = w.leave(t, spare, c.free[k])
				}
				p.step(t)
			}
			got := p.twin.touches()
			if last := behind(got, loads(size)); p.out != c.out || !strings.HasPrefix(last, c.last) || c.out == isNone && last != c.last {
				t.Errorf("P12.1: with %v places free: %s, %s, not %s, %s", c.free, p.out, last, c.out, c.last)
			}
			w.noFaults(t)
		}
	}
}

// leave frees, or uses, places till so many are free.
func (b *both) leave(t testing.TB, spare []ref.Ref, free int) []ref.Ref {
	t.Helper()
	for b.real.Arena.Most()-b.real.Arena.Used() > free {
		spare = append(spare, b.add(t, arena.Node{}))
	}
	for b.real.Arena.Most()-b.real.Arena.Used() < free {
		r := spare[len(spare)-1]
		spare = spare[:len(spare)-1]
		b.live = slices.DeleteFunc(b.live, func(o ref.Ref) bool { return o == r })
		b.do(func(w *world.World) { w.Arena.Free(r) })
	}
	return spare
}

// behind is the touches behind the first n, without the places of those that were freed.
func behind(touches string, n int) string {
	out := ""
	for i, name := range strings.SplitAfter(touches, ", ") {
		if i < n || name == "" {
			continue
		}
		if strings.HasPrefix(name, "Free") {
			name = "Free, "
		}
		out += name
	}
	return out
}

// TestNoRecord: no record is left: none, and what was made is freed.
func TestNoRecord(t *testing.T) {
	for _, made := range all() {
		for records := range 3 {
			n := made()
			w := newBoth(t, setting{3, 3, records}, n)
			for range records {
				w.make(t, record.Record{})
			}
			_, size := w.loaded(t, n)
			was := w.dump(w.real)
			want := loads(size) + 2*makes(n) + 1
			if out, steps := w.run(t, w.fixing(t, n.named("n"))); out != isNone || steps != want || w.dump(w.real) != was {
				t.Errorf("P12.1: no record is left: %s behind %d touches, not none behind %d", out, steps, want)
			}
			if makes(n) == 3 {
				w.freedAs(t, len(n.nodes())+1, len(n.nodes())+2, len(n.nodes())+3)
			}
			w.noFaults(t)
		}
	}
	// The last one that may be is enough.
	for _, made := range all() {
		n := made()
		w := newBoth(t, setting{3, 3, 2}, n)
		w.make(t, record.Record{})
		if out, _ := w.run(t, w.fixing(t, n.named("n"))); out != isDone {
			t.Errorf("P12.1: one record is left: %s", out)
		}
	}
}

// TestLeaveByEpochs: p and the node wait, each from the epoch in which its own Leave is; the thread that fixed lets them go.
func TestLeaveByEpochs(t *testing.T) {
	for _, c := range []struct {
		made func() *tree
		left string
	}{{asRoot, " 1:n@4"}, {splits, " 1:p@4 1:n@6"}, {deepFits, " 1:p@4 1:n@6"}} {
		n := c.made()
		w := newBoth(t, plenty(3), n)
		w.run(t, mendJob(0, 0)) // by thread 0, which has nothing to do
		p := w.start(w.fixing(t, n.named("n")))
		for !p.ended() {
			name := p.twin.ahead
			if name == "Now" {
				w.swap()
			}
			if strings.HasPrefix(name, "Leave") {
				// What was told by Now holds, whatever the epoch is by then.
				w.swap()
			}
			p.step(t)
		}
		if left := w.holdWaits(t); left != c.left {
			t.Errorf("P12.1: there wait%s, not%s", left, c.left)
		}
	}
}

// swap is the next epoch.
func (b *both) swap() { b.do(func(w *world.World) { w.Epochs.Swap(w.Epochs.Now()) }) }

// others are what others may do between two touches.
func others(b *both, l []ref.Ref, spare ref.Ref) []func(w *world.World) {
	out := []func(w *world.World){
		func(w *world.World) {},
		func(w *world.World) { w.Epochs.Swap(w.Epochs.Now()) },
		func(w *world.World) { w.Arena.Free(spare) },
		func(w *world.World) { w.Arena.Alloc(arena.Node{}) },
		func(w *world.World) {
			for w.Arena.Used() < w.Arena.Most() {
				w.Arena.Alloc(arena.Node{})
			}
		},
		func(w *world.World) {
			for w.Records.Len() < 9 {
				w.Records.Make(record.Record{})
			}
		},
	}
	for n := range int64(3) {
		for s := range record.States {
			out = append(out, func(w *world.World) { w.Records.Set(n+1, s) })
		}
		out = append(out, func(w *world.World) { w.Records.SetAll(n + 1) })
	}
	for _, r := range l {
		out = append(out, func(w *world.World) { w.Arena.SetMark(r) })
		for _, info := range []int64{0, 1, 2, 3, 55} {
			out = append(out, func(w *world.World) { w.Arena.SwapInfo(r, w.Arena.Info(r), info) })
		}
		for i := range 3 {
			out = append(out, func(w *world.World) { w.Arena.SwapWay(r, i, w.Arena.Way(r, i), spare) })
		}
	}
	return out
}

// setOthers is a world in which others are at the nodes that are loaded: record 1 is done, 2 is going; one more node is spare.
func setOthers(t testing.TB, n *tree) (*both, []ref.Ref, ref.Ref) {
	w := newBoth(t, setting{3, makes(n) + 2, 9}, n)
	l, _ := w.loaded(t, n)
	w.changeInfo(t, l[len(l)-1])
	w.make(t, record.Record{Nodes: l, Infos: make([]int64, len(l)), Keep: len(l)})
	return w, l, w.add(t, arena.Node{})
}

// TestWithOthersBetween: whatever others do ahead of any touch, all is as the chapter says.
func TestWithOthersBetween(t *testing.T) {
	for _, made := range all() {
		n := made()
		w, l, spare := setOthers(t, n)
		for i := range others(w, l, spare) {
			for at, ended := 0, false; !ended; at++ {
				ended = holdOthers(t, made(), map[int]int{at: i}) <= at
			}
		}
	}
}

// TestWithManyOthersBetween: several do something.
func TestWithManyOthersBetween(t *testing.T) {
	r := rand.New(rand.NewSource(5))
	for range 3000 {
		l := map[int]int{}
		for range 2 + r.Intn(4) {
			l[r.Intn(45)] = r.Intn(1000)
		}
		made := all()
		holdOthers(t, made[r.Intn(len(made))](), l)
	}
}

// holdOthers fixes a node, others doing something ahead of some touches: how many touches there were.
func holdOthers(t *testing.T, n *tree, between map[int]int) int {
	t.Helper()
	w, l, spare := setOthers(t, n)
	defer w.stop()
	what := others(w, l, spare)
	p := w.start(w.fixing(t, n.named("n")))
	for k := 0; !p.ended(); k++ {
		if i, ok := between[k]; ok {
			w.do(what[i%len(what)])
		}
		p.stepUnheld()
	}
	w.live = slices.DeleteFunc(w.live, func(r ref.Ref) bool { return r == spare })
	p.hold(t)
	w.holdWaits(t)
	return p.real.Steps()
}

// TestEmptyUp: neither, without a touch.
func TestEmptyUp(t *testing.T) {
	for _, up := range [][]seek.Step{nil, {}} {
		for _, way := range []int{0, 1, -1, math.MinInt64, math.MaxInt64} {
			n := asRoot()
			w := newBoth(t, plenty(3), n)
			for _, r := range []ref.Ref{n.ref, w.real.Entry, 0, -1, ref.Of(50, 1)} {
				was := w.dump(w.real)
				out := ""
				x := thread.New(func(x *thread.Thread) []int64 {
					done, none := Fix(world.Task{Thread: x, World: w.real}, up, way, r)
					out = tell(done, none)
					return nil
				})
				if !x.Step() || x.Steps() != 0 || out != isNeither || w.dump(w.real) != was {
					t.Errorf("P12.1: with nothing above: %s behind %d touches", out, x.Steps())
				}
			}
			w.noFaults(t)
		}
	}
}

// TestTasksThatAreNot: nothing without a thread, without a world; none panics outside of a Step, or in a world that nobody made.
func TestTasksThatAreNot(t *testing.T) {
	for _, made := range all() {
		n := made()
		w := newBoth(t, plenty(3), n)
		up, way := w.upTo(t, n.named("n"))
		was := w.dump(w.real)
		idle := thread.New(nil)
		for _, k := range []world.Task{{}, {World: w.real}, {Thread: idle}, {Me: 3}, {World: &world.World{}}, {Thread: idle, World: w.real}, {Thread: idle, World: &world.World{}}} {
			if done, none := Fix(k, up, way, n.named("n").ref); done || none {
				t.Errorf("P2, R7: %t, %t", done, none)
			}
		}
		for _, k := range []*world.World{nil, {}} {
			x := thread.New(func(x *thread.Thread) []int64 {
				if done, none := Fix(world.Task{Thread: x, World: k}, up, way, n.named("n").ref); done || none {
					t.Errorf("P2, R7: in no world: %t, %t", done, none)
				}
				return nil
			})
			for range 99 {
				x.Step()
			}
			if !x.Done() || k == nil && x.Steps() != 0 {
				t.Errorf("P2, R7: %d touches in no world", x.Steps())
			}
		}
		if w.dump(w.real) != was {
			t.Error("P2, R7: something changed")
		}
		w.noFaults(t)
	}
}

// fixAlone does a Fix in a world alone, that is to come to its end, whatever it comes to.
func fixAlone(t testing.TB, w *world.World, up []seek.Step, way int, node ref.Ref) string {
	t.Helper()
	out := ""
	x := thread.New(func(x *thread.Thread) []int64 {
		done, none := Fix(world.Task{Thread: x, World: w}, up, way, node)
		out = tell(done, none)
		return nil
	})
	for range 500 {
		if x.Step() {
			return out
		}
	}
	t.Fatal("P1: no end")
	return ""
}

// TestWrongNodes: whatever references stand there, it ends, and none panics.
func TestWrongNodes(t *testing.T) {
	for _, made := range all() {
		n := made()
		w := newBoth(t, plenty(3), n)
		refs := []ref.Ref{0, -1, 1, w.real.Entry, n.ref, n.named("n").ref, n.named("n").below[0].ref, ref.Of(60, 1), ref.Of(2, 9), math.MinInt64, math.MaxInt64}
		for i := range refs {
			for k := range refs {
				for m := range refs {
					w := newBoth(t, plenty(3), made())
					fixAlone(t, w.real, []seek.Step{{Ref: refs[i]}, {Ref: refs[k]}}, m%3, refs[m])
					fixAlone(t, w.real, []seek.Step{{Ref: refs[i], Way: 1}, {Ref: refs[k], Way: 1}, {Ref: refs[m]}}, 1, refs[k])
					fixAlone(t, w.real, []seek.Step{{Ref: refs[i]}}, k%3, refs[m])
				}
			}
		}
	}
}

// TestLeavesAbove: a leaf has no way, so nothing is below it.
func TestLeavesAbove(t *testing.T) {
	n := deep()
	w := newBoth(t, plenty(3), n)
	low, node := n.named("L10").ref, n.named("n").ref
	for _, up := range [][]seek.Step{{{Ref: low}}, {{Ref: low}, {Ref: n.named("p").ref}}, {{Ref: n.named("p").ref}, {Ref: low}}, {{Ref: low}, {Ref: low}}} {
		was := w.dump(w.real)
		for way := range 3 {
			if out := fixAlone(t, w.real, up, way, node); out != isNeither || w.dump(w.real) != was {
				t.Errorf("P12.1: below a leaf: %s", out)
			}
		}
	}
	w.noFaults(t)
}

// TestNodesThatAreNotRight: nodes without ways, with keys that don't fit, with more ways than B; circles; leaves: it ends, and none panics.
func TestNodesThatAreNotRight(t *testing.T) {
	kinds := []arena.Node{
		{Inner: true}, {Inner: true, Tagged: true}, {}, {Tagged: true, Pairs: leaf.Leaf{{Key: 5}}},
		{Inner: true, Ways: inner.Inner{Keys: ks(5, 6, 7)}},
		{Inner: true, Ways: inner.Inner{Ways: make([]ref.Ref, 2)}},
		{Inner: true, Tagged: true, Ways: inner.Inner{Keys: ks(9, 5, 1, 0), Ways: make([]ref.Ref, 2)}},
		{Inner: true, Ways: inner.Inner{Keys: ks(5, 4, 3, 2), Ways: make([]ref.Ref, 5)}},
		{Inner: true, Tagged: true, Ways: inner.Inner{Keys: make([]int64, 49), Ways: make([]ref.Ref, 50)}},
		{Inner: true, Ways: inner.Inner{Ways: make([]ref.Ref, 50)}},
	}
	for _, g := range kinds {
		for _, p := range kinds {
			for _, node := range kinds {
				for circle := range 3 {
					w := newBoth(t, plenty(3), lf(1))
					l := []ref.Ref{w.add(t, g), w.add(t, p), w.add(t, node)}
					l = append(l[:3-circle], l[:circle]...)
					for i, r := range l {
						for k := range 2 {
							w.leads(r, k, l[(i+1)%3])
						}
					}
					w.leads(w.real.Entry, 0, l[0])
					fixAlone(t, w.real, []seek.Step{{Ref: l[0], Way: 1}, {Ref: l[1], Way: 1}}, 0, l[2])
					fixAlone(t, w.real, []seek.Step{{Ref: w.real.Entry}, {Ref: l[0]}}, 1, l[1])
					fixAlone(t, w.real, []seek.Step{{Ref: w.real.Entry}}, 0, l[0])
				}
			}
		}
	}
}

// TestHandedInStays: up is neither changed nor kept, spare room included.
func TestHandedInStays(t *testing.T) {
	for _, made := range all() {
		n := made()
		w := newBoth(t, plenty(3), n)
		l, way := w.upTo(t, n.named("n"))
		up := append(make([]seek.Step, 0, 9), l...)
		for i := len(l); i < 9; i++ {
			up[:9][i] = seek.Step{Ref: -7, Way: i}
		}
		was := tell(up[:9])
		if out := fixAlone(t, w.real, up, way, n.named("n").ref); out != isDone || tell(up[:9]) != was {
			t.Errorf("P2, R6: %s, and up is %s, not %s", out, tell(up[:9]), was)
		}
		all := whole(w.real)
		for _, s := range up {
			clear(s.Node.Ways.Keys)
			clear(s.Node.Ways.Ways)
		}
		clear(up)
		if whole(w.real) != all {
			t.Errorf("P2, R6: %s is %s when up is changed", all, whole(w.real))
		}
	}
}
