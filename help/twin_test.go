package help

import (
	"slices"
	"testing"

	"boscage/api"
	"boscage/arena"
	"boscage/inner"
	"boscage/record"
	"boscage/ref"
	"boscage/thread"
	"boscage/world"
)

// rest is what is still to be done: the next touch, which tells the rest behind it; nil is the end.
type rest func() rest

// twin is Record as the chapter's words say it, touch by touch, in a world of its own.
type twin struct {
	w     *world.World
	n     int64
	r     record.Record
	next  rest
	steps int
	out   bool
}

func newTwin(w *world.World, n int64) *twin {
	p := &twin{w: w, n: n, r: w.Records.Look(n)}
	p.next = p.node(0)
	return p
}

func (p *twin) ended() bool { return p.next == nil }

func (p *twin) step() {
	p.next = p.next()
	p.steps++
}

func (p *twin) node(i int) rest {
	if i == len(p.r.Nodes) {
		return func() rest { p.w.Records.SetAll(p.n); return p.mark(p.r.Keep) }
	}
	return func() rest {
		if p.w.Arena.SwapInfo(p.r.Nodes[i], p.r.Infos[i], p.n) {
			return p.node(i + 1)
		}
		return func() rest {
			if p.w.Arena.Info(p.r.Nodes[i]) == p.n {
				return p.node(i + 1)
			}
			return p.all
		}
	}
}

func (p *twin) all() rest {
	if p.w.Records.All(p.n) {
		p.out = true
		return nil
	}
	return func() rest { p.w.Records.Set(p.n, record.Aborted); return nil }
}

func (p *twin) mark(i int) rest {
	if i < len(p.r.Nodes) {
		return func() rest { p.w.Arena.SetMark(p.r.Nodes[i]); return p.mark(i + 1) }
	}
	if len(p.r.Nodes) == 0 {
		return p.done
	}
	return func() rest {
		p.w.Arena.SwapWay(p.r.Nodes[0], p.r.Way, p.r.Old, p.r.New)
		return p.done
	}
}

func (p *twin) done() rest {
	p.w.Records.Set(p.n, record.Done)
	p.out = true
	return nil
}

// ways is how many each inner node of these tests has.
const ways = 3

// both are a world of tasks, and one of twins, to which the same is done; nodes are those that were ever made beside New's own.
type both struct {
	real, twin *world.World
	nodes      []ref.Ref
}

// newBoth has so many inner nodes, whose ways are all different.
func newBoth(t testing.TB, nodes int) *both {
	t.Helper()
	b := &both{made(t), made(t), nil}
	for range nodes {
		b.node(t)
	}
	return b
}

func made(t testing.TB) *world.World {
	t.Helper()
	w, e := world.New(2, 3, 1, 200, 300)
	if e != api.OK {
		t.Fatalf("P8.1: New is %d", e)
	}
	return w
}

// wayOf is what way i of node k is at first.
func wayOf(k, i int) ref.Ref { return ref.Ref(1000 + 10*k + i) }

// do does the same to each.
func (b *both) do(what func(w *world.World)) {
	what(b.real)
	what(b.twin)
}

// node puts one more into each.
func (b *both) node(t testing.TB) ref.Ref {
	t.Helper()
	k := len(b.nodes)
	n := inner.Inner{Keys: make([]int64, ways-1)}
	for i := range ways {
		n.Ways = append(n.Ways, wayOf(k, i))
	}
	var out ref.Ref
	b.do(func(w *world.World) { out, _ = w.Arena.Alloc(arena.Node{Inner: true, Ways: n}) })
	if out == 0 {
		t.Fatal("P4.1: there is no room")
	}
	b.nodes = append(b.nodes, out)
	return out
}

// make is a record in each.
func (b *both) make(t testing.TB, r record.Record) int64 {
	t.Helper()
	var n int64
	b.do(func(w *world.World) { n, _ = w.Records.Make(r) })
	if n == 0 {
		t.Fatalf("P5.1: record %v is refused", r)
	}
	return n
}

// pair is one helper of a record in both worlds.
type pair struct {
	worlds *both
	n      int64
	real   *thread.Thread
	twin   *twin
}

func (b *both) help(n int64) *pair {
	return &pair{b, n, asTask(b.real, n), newTwin(b.twin, n)}
}

// asTask is Record as a thread's work; at its end it tells 1 or 0.
func asTask(w *world.World, n int64) *thread.Thread {
	return thread.New(func(x *thread.Thread) []int64 {
		return []int64{bit(Record(world.Task{Thread: x, World: w}, n))}
	})
}

func bit(b bool) int64 {
	if b {
		return 1
	}
	return 0
}

func (p *pair) ended() bool { return p.twin.ended() }

// step is one of both, which are held against each other.
func (p *pair) step(t testing.TB) {
	t.Helper()
	end := p.real.Step()
	p.twin.step()
	if end != p.ended() || p.real.Steps() != p.twin.steps {
		t.Fatalf("P9.1: record %d: behind touch %d the end is told as %t, not %t; %d touches are told", p.n, p.twin.steps, end, p.ended(), p.real.Steps())
	}
	if out := p.real.Out(); end && !slices.Equal(out, []int64{bit(p.twin.out)}) {
		t.Fatalf("P9.1: record %d comes to %v, not %t", p.n, out, p.twin.out)
	}
	p.worlds.same(t)
}

// run goes on to the end: what it came to, and how many touches it took.
func (p *pair) run(t testing.TB) (bool, int) {
	t.Helper()
	for range 1000 {
		if p.ended() {
			return p.twin.out, p.twin.steps
		}
		p.step(t)
	}
	t.Fatal("P1: no end")
	return false, 0
}

// same holds all that may change in both against each other.
func (b *both) same(t testing.TB) {
	t.Helper()
	a, c := b.real.Arena, b.twin.Arena
	if a.Faults() != c.Faults() || a.Used() != c.Used() {
		t.Fatalf("P9.1: %d faults, %d places used; not %d, %d", a.Faults(), a.Used(), c.Faults(), c.Used())
	}
	if got, want := b.real.Arena.Way(b.real.Entry, 0), b.twin.Arena.Way(b.twin.Entry, 0); got != want {
		t.Fatalf("P9.1: the root is %d, not %d", got, want)
	}
	for k, r := range b.nodes {
		if got, want := stateOf(b.real, r), stateOf(b.twin, r); got != want {
			t.Fatalf("P9.1: node %d is %v, not %v", k, got, want)
		}
	}
	if b.real.Records.Len() != b.twin.Records.Len() {
		t.Fatalf("P9.1: %d records, not %d", b.real.Records.Len(), b.twin.Records.Len())
	}
	for i := range b.twin.Records.Len() {
		n := int64(i) + 1
		if got, want := b.real.Records.State(n), b.twin.Records.State(n); got != want {
			t.Fatalf("P9.1: record %d is %d, not %d", n, got, want)
		}
		if got, want := b.real.Records.All(n), b.twin.Records.All(n); got != want {
			t.Fatalf("P9.1: record %d: All is %t, not %t", n, got, want)
		}
	}
	if e := b.real.Epochs; e.Now() != 0 || e.Said(0) != -1 || e.Limbo() != 0 {
		t.Fatalf("P9.1: epoch %d, announced %d, %d wait", e.Now(), e.Said(0), e.Limbo())
	}
}

// nodeState is all that changes of a node.
type nodeState struct {
	info int64
	mark bool
	ways [ways]ref.Ref
}

func stateOf(w *world.World, r ref.Ref) nodeState {
	s := nodeState{info: w.Arena.Info(r), mark: w.Arena.Mark(r)}
	for i := range s.ways {
		s.ways[i] = w.Arena.Way(r, i)
	}
	return s
}

// plain is a record of some nodes, none of which has one yet; way 1 of the first is to be 7000.
func (b *both) plain(keep int, which ...int) record.Record {
	r := record.Record{Keep: keep, Way: 1, New: 7000}
	for _, k := range which {
		r.Nodes = append(r.Nodes, b.nodes[k])
		r.Infos = append(r.Infos, 0)
	}
	if len(which) > 0 {
		r.Old = wayOf(which[0], 1)
	}
	return r
}
