package mend

import (
	"fmt"
	"strconv"
	"testing"

	"boscage/api"
	"boscage/arena"
	"boscage/llx"
	"boscage/record"
	"boscage/ref"
	"boscage/seek"
	"boscage/thread"
	"boscage/world"
)

// job is work, as the package does it and as its twin does; what it comes to is told as a text.
type job struct {
	real func(world.Task) string
	twin func(*twin) string
}

func tell(l ...any) string { return fmt.Sprintf("%+v", l) }

// What a change of a leaf comes to.
var (
	isDone    = tell(true, false)
	isNone    = tell(false, true)
	isNeither = tell(false, false)
)

// What a Path tells.
var (
	isMended = tell(false)
	isShort  = tell(true)
)

// pathJob is a Path to a key.
func pathJob(key int64) job {
	return job{
		func(t world.Task) string { return tell(Path(t, key)) },
		func(p *twin) string { return tell(p.mend(key)) },
	}
}

// more is a leaf with its first value one more.
func more(n arena.Node) arena.Node {
	n.Pairs, _, _ = n.Pairs.Put(n.Pairs[0].Key, n.Pairs[0].Value+1)
	return n
}

// copyJob puts another leaf instead of one that a key goes to, as somebody who changes the tree does.
func copyJob(key int64) job {
	return job{
		func(t world.Task) string {
			above, at := seek.Leaf(t, key)
			l, seen := llx.Loads(t, above.Ref, at.Ref)
			if !seen || !l[0].Goes(above.Way, at.Ref) || len(l[1].Node.Pairs) == 0 {
				return isNeither
			}
			now := t.Make(more(l[1].Node))
			if now == 0 {
				return isNone
			}
			done, none := llx.Store(t, l, 1, above.Way, at.Ref, now)
			if done {
				t.Leave(at.Ref)
			} else {
				t.Drop(now)
			}
			return tell(done, none)
		},
		func(p *twin) string {
			l := p.path(key)
			above, at := l[len(l)-2], l[len(l)-1]
			snaps, seen := p.loads(above.Ref, at.Ref)
			if !seen || !isWay(snaps[0], above.Way, at.Ref) || len(snaps[1].Node.Pairs) == 0 {
				return isNeither
			}
			now := p.make(more(snaps[1].Node))
			if now == 0 {
				return isNone
			}
			done, none := p.store(snaps, 1, above.Way, at.Ref, now)
			if done {
				p.leave(at.Ref)
			} else {
				p.drop(now)
			}
			return tell(done, none)
		},
	}
}

// noJob does nothing.
func noJob() job {
	return job{func(world.Task) string { return "" }, func(*twin) string { return "" }}
}

// thenJob is some jobs, one behind the other.
func thenJob(l ...job) job {
	return job{
		func(t world.Task) string {
			out := ""
			for _, j := range l {
				out += j.real(t)
			}
			return out
		},
		func(p *twin) string {
			out := ""
			for _, j := range l {
				out += j.twin(p)
			}
			return out
		},
	}
}

// both are a world of tasks, and one of twins, to which the same is done.
type both struct {
	real, twin *world.World
	live       []ref.Ref // nodes whose places are used
	names      map[ref.Ref]string
	pairs      []*pair
}

// setting is what a world is to be: A, B, how many places are left behind the tree is made, how many records there are.
type setting struct {
	a, b, left, records int
}

// plenty has room for all.
func plenty(a, b int) setting { return setting{a, b, 30, 100} }

func newBoth(t testing.TB, c setting, n *tree) *both {
	t.Helper()
	b := &both{names: map[ref.Ref]string{}}
	for _, w := range []**world.World{&b.real, &b.twin} {
		var e api.Errno
		if *w, e = world.New(c.a, c.b, 4, len(n.nodes())+1+c.left, c.records); e != api.OK {
			t.Fatalf("P8.1: New is %d", e)
		}
		first := (*w).Arena.Way((*w).Entry, 0)
		(*w).Arena.Free(first)
		(*w).Arena.SwapWay((*w).Entry, 0, first, n.plant(t, *w))
	}
	b.live = append(b.live, b.real.Entry)
	b.names[b.real.Entry] = "entry"
	for _, o := range n.nodes() {
		b.live = append(b.live, o.ref)
		b.names[o.ref] = o.name
	}
	return b
}

// stop ends the twins that aren't at their end.
func (b *both) stop() {
	for _, p := range b.pairs {
		p.twin.stop()
	}
	b.pairs = nil
}

// name is a node's, or that of the place of one that has none.
func (b *both) name(r ref.Ref) string {
	if name := b.names[r]; name != "" {
		return name
	}
	return "#" + strconv.Itoa(r.Place())
}

// do does the same to each.
func (b *both) do(what func(w *world.World)) {
	what(b.real)
	what(b.twin)
}

// add puts one more node into each.
func (b *both) add(t testing.TB, n arena.Node) ref.Ref {
	t.Helper()
	var r ref.Ref
	b.do(func(w *world.World) { r, _ = w.Arena.Alloc(n) })
	if r == 0 {
		t.Fatal("P4.1: there is no room")
	}
	b.live = append(b.live, r)
	return r
}

// addTree puts one more tree into each, beside the one that is there.
func (b *both) addTree(t testing.TB, n *tree) ref.Ref {
	t.Helper()
	for _, o := range n.below {
		o.ref = b.addTree(t, o)
	}
	return b.add(t, n.node())
}

// make is a record in each.
func (b *both) make(t testing.TB, r record.Record) int64 {
	t.Helper()
	var n int64
	b.do(func(w *world.World) { n, _ = w.Records.Make(r) })
	if n == 0 {
		t.Fatalf("P5.1: record %v is refused", r)
	}
	return n
}

// leads makes a way go to another node.
func (b *both) leads(r ref.Ref, way int, to ref.Ref) {
	b.do(func(w *world.World) { w.Arena.SwapWay(r, way, w.Arena.Way(r, way), to) })
}

// pair is one job in both worlds.
type pair struct {
	b    *both
	real *thread.Thread
	twin *twin
	out  string // what the real one came to
}

// start is a job of the next thread.
func (b *both) start(j job) *pair { return b.startAs(len(b.pairs)%4, j) }

// startAs is a job of thread me.
func (b *both) startAs(me int, j job) *pair {
	p := &pair{b: b, twin: &twin{b: b, w: b.twin, me: me}}
	p.twin.start(j.twin)
	p.real = thread.New(func(x *thread.Thread) []int64 {
		p.out = j.real(world.Task{Thread: x, World: b.real, Me: me})
		return nil
	})
	b.pairs = append(b.pairs, p)
	return p
}

func (p *pair) ended() bool { return p.twin.ended }

// hold holds both against each other.
func (p *pair) hold(t testing.TB) {
	t.Helper()
	p.holdTold(t)
	p.b.hold(t)
}

// holdTold holds what is told of both.
func (p *pair) holdTold(t testing.TB) {
	t.Helper()
	if p.real.Done() != p.ended() || p.real.Steps() != len(p.twin.told) {
		t.Fatalf("P14.2: the end is told as %t, %d touches are told; not %t, %q", p.real.Done(), p.real.Steps(), p.ended(), p.twin.told)
	}
	if p.ended() && p.out != p.twin.out {
		t.Fatalf("P14.2: it comes to %s, not %s", p.out, p.twin.out)
	}
}

func (b *both) hold(t testing.TB) {
	t.Helper()
	if got, want := b.dump(b.real), b.dump(b.twin); got != want {
		told := ""
		for _, p := range b.pairs {
			told += fmt.Sprintf("\n%q", p.twin.told)
		}
		t.Fatalf("P14.2: all is\n%s, not\n%s, behind%s", got, want, told)
	}
}

// stepUnheld is one of both, that aren't held against each other.
func (p *pair) stepUnheld() {
	p.real.Step()
	p.twin.step()
}

func (p *pair) step(t testing.TB) {
	t.Helper()
	p.stepUnheld()
	p.hold(t)
}

// run goes on to the end: what it came to, and how many touches it took.
func (p *pair) run(t testing.TB) (string, int) {
	t.Helper()
	for range 5000 {
		if p.step(t); p.ended() {
			return p.out, p.real.Steps()
		}
	}
	t.Fatal("P1: no end")
	return "", 0
}

// runUnheld goes on to the end, and holds both against each other there alone.
func (p *pair) runUnheld(t testing.TB) (string, int) {
	t.Helper()
	for !p.ended() {
		p.stepUnheld()
	}
	p.hold(t)
	return p.out, p.real.Steps()
}

// run does a job alone.
func (b *both) run(t testing.TB, j job) (string, int) {
	t.Helper()
	return b.start(j).run(t)
}

// dump is all that may change in a world. Only nodes whose places are used are asked.
func (b *both) dump(w *world.World) string {
	var out []byte
	number := func(l ...int64) {
		for _, n := range l {
			out = strconv.AppendInt(append(out, ' '), n, 10)
		}
	}
	number(int64(w.Arena.Used()), w.Epochs.Now(), int64(w.Epochs.Limbo()))
	for i := range w.Epochs.Len() {
		number(w.Epochs.Said(i))
	}
	for _, r := range b.live {
		n := w.Arena.Look(r)
		out = append(out, " | "...)
		number(int64(r), w.Arena.Info(r))
		out = strconv.AppendBool(out, w.Arena.Mark(r))
		out = strconv.AppendBool(out, n.Inner)
		out = strconv.AppendBool(out, n.Tagged)
		number(n.Ways.Keys...)
		for _, p := range n.Pairs {
			number(p.Key, p.Value)
		}
		for i := range n.Ways.Ways {
			number(int64(n.Ways.Ways[i]), int64(w.Arena.Way(r, i)))
		}
	}
	for i := range int64(w.Records.Len()) {
		r := w.Records.Look(i + 1)
		out = append(out, " / "...)
		number(int64(w.Records.State(i+1)), int64(r.Keep), int64(r.Way), int64(r.Old), int64(r.New))
		out = strconv.AppendBool(out, w.Records.All(i+1))
		for k, node := range r.Nodes {
			number(int64(node), r.Infos[k])
		}
	}
	return string(out)
}

// noFaults: no node was touched that isn't right.
func (b *both) noFaults(t testing.TB) {
	t.Helper()
	if n := b.real.Arena.Faults(); n != 0 {
		t.Errorf("P1: %d faults", n)
	}
}

// waits is the nodes that wait to be freed, by their names, each with the epoch in which it may be, as threads let them go; they don't wait any more then.
func (b *both) waits(w *world.World) string {
	out := ""
	for me := range w.Epochs.Len() {
		for now := range int64(200) {
			for r := w.Epochs.Ready(me, now); r != 0; r = w.Epochs.Ready(me, now) {
				out += fmt.Sprintf(" %d:%s@%d", me, b.name(r), now)
			}
		}
	}
	return out
}

// holdWaits holds what waits against each other, and tells it.
func (b *both) holdWaits(t testing.TB) string {
	t.Helper()
	got, want := b.waits(b.real), b.waits(b.twin)
	if got != want {
		t.Fatalf("P14.2: there wait%s, not%s", got, want)
	}
	return got
}
