package world

import (
	"math"
	"slices"
	"testing"

	"boscage/api"
	"boscage/arena"
	"boscage/inner"
	"boscage/leaf"
	"boscage/ref"
	"boscage/thread"
)

// kind is which of a task's calls an act is.
type kind int

const (
	begin kind = iota
	end
	mak
	drop
	leave
)

// act is a call within work. Nodes are named by slots, since references come of Make; slot 0 has none, ever.
type act struct {
	kind  kind
	node  arena.Node // of mak
	to    int        // of mak: the slot that the reference goes to
	slots []int      // of drop, leave
}

const slots = 12

// asTask is work as a task's calls do it; at its end it tells the slots.
func asTask(w *World, me int, from []ref.Ref, acts []act) *thread.Thread {
	return thread.New(func(x *thread.Thread) []int64 {
		t := Task{Thread: x, World: w, Me: me}
		has := make([]ref.Ref, slots)
		copy(has, from)
		for _, a := range acts {
			switch a.kind {
			case begin:
				t.Begin()
			case end:
				t.End()
			case mak:
				has[a.to] = t.Make(a.node)
			case drop:
				t.Drop(named(has, a.slots)...)
			case leave:
				t.Leave(named(has, a.slots)...)
			}
		}
		return numbers(has)
	})
}

func named(has []ref.Ref, l []int) []ref.Ref {
	var out []ref.Ref
	for _, s := range l {
		out = append(out, has[s])
	}
	return out
}

func numbers(l []ref.Ref) []int64 {
	var out []int64
	for _, r := range l {
		out = append(out, int64(r))
	}
	return out
}

// rest is what is still to be done: the next touch, which tells the rest behind it; nil is the end.
type rest func() rest

// twin is work as the chapter's words say it, touch by touch, in a world of its own, by calls of chapters 4 and 7 alone.
type twin struct {
	w     *World
	me    int
	has   []ref.Ref
	next  rest
	steps int
	ended bool
}

func newTwin(w *World, me int, from []ref.Ref, acts []act) *twin {
	p := &twin{w: w, me: me, has: make([]ref.Ref, slots)}
	copy(p.has, from)
	p.next = p.acts(acts)
	return p
}

func (p *twin) step() bool {
	if p.next != nil {
		p.next = p.next()
		p.steps++
	}
	p.ended = p.next == nil
	return p.ended
}

func (p *twin) acts(l []act) rest {
	if len(l) == 0 {
		return nil
	}
	then := func() rest { return p.acts(l[1:]) }
	switch a := l[0]; a.kind {
	case begin:
		return p.begin(then)
	case end:
		return func() rest { p.w.Epochs.Say(p.me, -1); return then() }
	case mak:
		return func() rest {
			r, ok := p.w.Arena.Alloc(a.node)
			if !ok {
				r = 0
			}
			p.has[a.to] = r
			return then()
		}
	case drop:
		return p.drop(named(p.has, a.slots), then)
	default:
		return p.leave(named(p.has, a.slots), then)
	}
}

func (p *twin) begin(then func() rest) rest {
	return func() rest {
		now := p.w.Epochs.Now()
		return func() rest {
			p.w.Epochs.Say(p.me, now)
			return p.said(0, now, then)
		}
	}
}

func (p *twin) said(i int, now int64, then func() rest) rest {
	if i == p.w.Epochs.Len() {
		return func() rest { p.w.Epochs.Swap(now); return p.again(then) }
	}
	return func() rest {
		switch p.w.Epochs.Said(i) {
		case now, -1:
			return p.said(i+1, now, then)
		}
		return p.again(then)
	}
}

func (p *twin) again(then func() rest) rest {
	return func() rest { return p.ready(p.w.Epochs.Now(), then) }
}

func (p *twin) ready(now int64, then func() rest) rest {
	return func() rest {
		r := p.w.Epochs.Ready(p.me, now)
		if r == 0 {
			return then()
		}
		p.w.Arena.Free(r)
		return p.ready(now, then)
	}
}

func (p *twin) drop(l []ref.Ref, then func() rest) rest {
	if len(l) == 0 {
		return then()
	}
	if l[0] == 0 {
		return p.drop(l[1:], then)
	}
	return func() rest { p.w.Arena.Free(l[0]); return p.drop(l[1:], then) }
}

func (p *twin) leave(l []ref.Ref, then func() rest) rest {
	if len(l) == 0 {
		return then()
	}
	return func() rest {
		at := p.w.Epochs.Now()
		return func() rest { p.w.Epochs.Leave(p.me, l[0], at); return p.leave(l[1:], then) }
	}
}

// made is a world that may not be refused.
func made(t *testing.T, threads, nodes int) *World {
	t.Helper()
	w, e := New(2, 3, threads, nodes, 9)
	if e != api.OK || w == nil {
		t.Fatalf("P8.1: New(2, 3, %d, %d, 9) is %v, %d", threads, nodes, w, e)
	}
	return w
}

// both are a world of tasks, and one of twins, to which the same is done.
type both struct {
	real, twin *World
}

func newBoth(t *testing.T, threads, nodes int) both {
	t.Helper()
	return both{made(t, threads, nodes), made(t, threads, nodes)}
}

// do does the same to each.
func (b both) do(what func(w *World)) {
	what(b.real)
	what(b.twin)
}

// node puts one into each; they are expected at the same place.
func (b both) node(t *testing.T, n arena.Node) ref.Ref {
	t.Helper()
	r, ok := b.real.Arena.Alloc(n)
	s, also := b.twin.Arena.Alloc(n)
	if r != s || !ok || !also {
		t.Fatalf("P8.1: references %d, %t and %d, %t", r, ok, s, also)
	}
	return r
}

// pair is one thread's work in both worlds.
type pair struct {
	worlds both
	real   *thread.Thread
	twin   *twin
}

func (b both) work(me int, from []ref.Ref, acts ...act) pair {
	return pair{b, asTask(b.real, me, from, acts), newTwin(b.twin, me, from, acts)}
}

// step is one of both, which are held against each other.
func (p pair) step(t *testing.T) bool {
	t.Helper()
	got, want := p.real.Step(), p.twin.step()
	if got != want || p.real.Done() != p.twin.ended {
		t.Fatalf("P8.2: the end is told as %t, not %t, behind %d touches", got, want, p.twin.steps)
	}
	if p.real.Steps() != p.twin.steps {
		t.Fatalf("P8.2: %d touches, not %d", p.real.Steps(), p.twin.steps)
	}
	if want && !slices.Equal(p.real.Out(), numbers(p.twin.has)) {
		t.Fatalf("P8.2: references %v, not %v", p.real.Out(), p.twin.has)
	}
	p.worlds.same(t)
	return want
}

// run goes on to the end.
func (p pair) run(t *testing.T) {
	t.Helper()
	for range 10000 {
		if p.step(t) {
			return
		}
	}
	t.Fatal("P1: no end")
}

// same holds all that both tell without a change against each other.
func (b both) same(t *testing.T) {
	t.Helper()
	e, f := b.real.Epochs, b.twin.Epochs
	if e.Now() != f.Now() || e.Limbo() != f.Limbo() || e.Len() != f.Len() {
		t.Fatalf("P8.2: epoch %d, %d wait; not %d, %d", e.Now(), e.Limbo(), f.Now(), f.Limbo())
	}
	for i := range f.Len() {
		if e.Said(i) != f.Said(i) {
			t.Fatalf("P8.2: thread %d announced %d, not %d", i, e.Said(i), f.Said(i))
		}
	}
	a, c := b.real.Arena, b.twin.Arena
	if a.Used() != c.Used() || a.Faults() != c.Faults() {
		t.Fatalf("P8.2: %d places are used, with %d faults; not %d, %d", a.Used(), a.Faults(), c.Used(), c.Faults())
	}
	if b.real.Records.Len() != b.twin.Records.Len() {
		t.Fatalf("P8.2: %d records, not %d", b.real.Records.Len(), b.twin.Records.Len())
	}
}

// close takes out all that waits, and uses all places, and so holds the order of both against each other.
func (b both) close(t *testing.T, refs ...ref.Ref) {
	t.Helper()
	for _, r := range refs {
		if n, m := b.real.Arena.Look(r), b.twin.Arena.Look(r); !sameNode(n, m) {
			t.Fatalf("P8.2: node %d is %v, not %v", r, n, m)
		}
	}
	for i := range b.twin.Epochs.Len() {
		for b.twin.Epochs.Limbo() > 0 {
			r, s := b.real.Epochs.Ready(i, math.MaxInt64), b.twin.Epochs.Ready(i, math.MaxInt64)
			if r != s {
				t.Fatalf("P8.2: of thread %d node %d waits, not %d", i, r, s)
			}
			if b.same(t); s == 0 {
				break
			}
		}
	}
	for b.twin.Arena.Used() < b.twin.Arena.Most() {
		b.node(t, arena.Node{})
	}
	b.same(t)
}

func sameNode(n, m arena.Node) bool {
	return n.Inner == m.Inner && n.Tagged == m.Tagged && slices.Equal(n.Pairs, m.Pairs) && slices.Equal(n.Ways.Keys, m.Ways.Keys) && slices.Equal(n.Ways.Ways, m.Ways.Ways)
}

// some nodes, of each kind.
func someNodes() []arena.Node {
	return []arena.Node{
		{},
		{Tagged: true},
		{Pairs: leaf.Leaf{{Key: 2, Value: 20}, {Key: 5, Value: 50}}},
		{Inner: true, Ways: inner.Inner{Ways: []ref.Ref{7}}},
		{Inner: true, Tagged: true, Ways: inner.Inner{Keys: []int64{3, 9}, Ways: []ref.Ref{4, 5, 6}}},
		{Pairs: leaf.Leaf{{Key: math.MaxInt64, Value: math.MinInt64}}},
	}
}
