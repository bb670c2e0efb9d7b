package llx

import (
	"fmt"
	"slices"
	"testing"

	"boscage/api"
	"boscage/arena"
	"boscage/inner"
	"boscage/leaf"
	"boscage/record"
	"boscage/ref"
	"boscage/thread"
	"boscage/world"
)

// rest is what is still to be done: the next touch, which tells the rest behind it; nil is the end.
type rest func() rest

// twin is work as the chapters' words say it, touch by touch, in a world of its own. It is never gone through again.
type twin struct {
	w     *world.World
	begin func(*twin) rest // nil behind the first Step
	next  rest
	told  []int64 // what each touch told
	out   string
}

func (p *twin) ended() bool { return p.begin == nil && p.next == nil }

func (p *twin) step() {
	if p.begin != nil {
		p.next, p.begin = p.begin(p), nil
	}
	if p.next != nil {
		p.next = p.next()
	}
}

func (p *twin) number(touch func() int64, then func(int64) rest) rest {
	return func() rest {
		told := touch()
		p.told = append(p.told, told)
		return then(told)
	}
}

func (p *twin) yes(touch func() bool, then func(bool) rest) rest {
	return p.number(func() int64 { return bit(touch()) }, func(told int64) rest { return then(told == 1) })
}

func (p *twin) does(touch func(), then func() rest) rest {
	return p.number(func() int64 { touch(); return 0 }, func(int64) rest { return then() })
}

func (p *twin) mark(r ref.Ref, then func(bool) rest) rest {
	return p.yes(func() bool { return p.w.Arena.Mark(r) }, then)
}

func (p *twin) info(r ref.Ref, then func(int64) rest) rest {
	return p.number(func() int64 { return p.w.Arena.Info(r) }, then)
}

func (p *twin) state(n int64, then func(record.State) rest) rest {
	return p.number(func() int64 { return int64(p.w.Records.State(n)) }, func(told int64) rest { return then(record.State(told)) })
}

// record is chapter 9's Record.
func (p *twin) record(n int64, then func(bool) rest) rest {
	r := p.w.Records.Look(n)
	finish := func() rest {
		return p.does(func() { p.w.Records.SetAll(n) }, func() rest { return p.marks(n, r, r.Keep, then) })
	}
	settle := func() rest {
		return p.yes(func() bool { return p.w.Records.All(n) }, func(all bool) rest {
			if all {
				return then(true)
			}
			return p.does(func() { p.w.Records.Set(n, record.Aborted) }, func() rest { return then(false) })
		})
	}
	var take func(i int) rest
	take = func(i int) rest {
		if i == len(r.Nodes) {
			return finish()
		}
		return p.yes(func() bool { return p.w.Arena.SwapInfo(r.Nodes[i], r.Infos[i], n) }, func(ok bool) rest {
			if ok {
				return take(i + 1)
			}
			return p.info(r.Nodes[i], func(has int64) rest {
				if has == n {
					return take(i + 1)
				}
				return settle()
			})
		})
	}
	return take(0)
}

func (p *twin) marks(n int64, r record.Record, i int, then func(bool) rest) rest {
	if i < len(r.Nodes) {
		return p.does(func() { p.w.Arena.SetMark(r.Nodes[i]) }, func() rest { return p.marks(n, r, i+1, then) })
	}
	done := func() rest {
		return p.does(func() { p.w.Records.Set(n, record.Done) }, func() rest { return then(true) })
	}
	if len(r.Nodes) == 0 {
		return done()
	}
	return p.yes(func() bool { return p.w.Arena.SwapWay(r.Nodes[0], r.Way, r.Old, r.New) }, func(bool) rest { return done() })
}

func (p *twin) load(r ref.Ref, then func(Snap, Status) rest) rest {
	return p.mark(r, func(first bool) rest {
		return p.info(r, func(n int64) rest {
			return p.state(n, func(s record.State) rest {
				return p.mark(r, func(second bool) rest {
					other := func() rest { return p.other(r, n, first, then) }
					if s == record.Aborted || s == record.Done && !second {
						return p.ways(Snap{Ref: r, Info: n, Node: p.w.Arena.Look(r)}, then, other)
					}
					return other()
				})
			})
		})
	})
}

func (p *twin) ways(s Snap, then func(Snap, Status) rest, other func() rest) rest {
	if i := len(s.Ways); i < len(s.Node.Ways.Ways) {
		return p.number(func() int64 { return int64(p.w.Arena.Way(s.Ref, i)) }, func(told int64) rest {
			s.Ways = append(s.Ways, ref.Ref(told))
			return p.ways(s, then, other)
		})
	}
	return p.info(s.Ref, func(n int64) rest {
		if n == s.Info {
			return then(s, Seen)
		}
		return other()
	})
}

func (p *twin) other(r ref.Ref, n int64, first bool, then func(Snap, Status) rest) rest {
	busy := func(bool) rest { return then(Snap{}, Busy) }
	again := func() rest {
		return p.info(r, func(m int64) rest {
			return p.state(m, func(s record.State) rest {
				if s == record.Going {
					return p.record(m, busy)
				}
				return busy(false)
			})
		})
	}
	return p.state(n, func(s record.State) rest {
		if s != record.Going {
			if s == record.Done && first {
				return then(Snap{}, Gone)
			}
			return again()
		}
		return p.record(n, func(done bool) rest {
			if done && first {
				return then(Snap{}, Gone)
			}
			return again()
		})
	})
}

func (p *twin) loads(l []ref.Ref, had []Snap, then func([]Snap, bool) rest) rest {
	if len(had) == len(l) {
		return then(had, true)
	}
	return p.load(l[len(had)], func(s Snap, status Status) rest {
		if status != Seen {
			return then(nil, false)
		}
		return p.loads(l, append(had, s), then)
	})
}

func (p *twin) store(l []Snap, keep, way int, old, now ref.Ref, then func(done, none bool) rest) rest {
	r := record.Record{Keep: keep, Way: way, Old: old, New: now}
	for _, s := range l {
		r.Nodes, r.Infos = append(r.Nodes, s.Ref), append(r.Infos, s.Info)
	}
	made := func() int64 {
		n, ok := p.w.Records.Make(r)
		if !ok {
			return -1
		}
		return n
	}
	return p.number(made, func(n int64) rest {
		if n == -1 {
			return then(false, true)
		}
		return p.record(n, func(done bool) rest { return then(done, false) })
	})
}

func (p *twin) still(l []Snap, then func(bool) rest) rest {
	if len(l) == 0 {
		return then(true)
	}
	return p.info(l[0].Ref, func(n int64) rest {
		if n != l[0].Info {
			return then(false)
		}
		return p.still(l[1:], then)
	})
}

// job is work, as the package does it and as its twin does; what it comes to is told as a text.
type job struct {
	real func(world.Task) string
	twin func(*twin) rest
}

func (p *twin) tells(l ...any) rest {
	p.out = tell(l...)
	return nil
}

func tell(l ...any) string { return fmt.Sprintf("%+v", l) }

func loadJob(r ref.Ref) job {
	return job{
		func(t world.Task) string { s, e := Load(t, r); return tell(s, e) },
		func(p *twin) rest { return p.load(r, func(s Snap, e Status) rest { return p.tells(s, e) }) },
	}
}

func loadsJob(l ...ref.Ref) job {
	return job{
		func(t world.Task) string { s, ok := Loads(t, l...); return tell(s, ok) },
		func(p *twin) rest { return p.loads(l, nil, func(s []Snap, ok bool) rest { return p.tells(s, ok) }) },
	}
}

func storeJob(l []Snap, keep, way int, old, now ref.Ref) job {
	return job{
		func(t world.Task) string {
			done, none := Store(t, l, keep, way, old, now)
			return tell(done, none)
		},
		func(p *twin) rest {
			return p.store(l, keep, way, old, now, func(done, none bool) rest { return p.tells(done, none) })
		},
	}
}

func stillJob(l []Snap) job {
	return job{
		func(t world.Task) string { return tell(Still(t, l)) },
		func(p *twin) rest { return p.still(l, func(ok bool) rest { return p.tells(ok) }) },
	}
}

func bit(b bool) int64 {
	if b {
		return 1
	}
	return 0
}

// both are a world of tasks, and one of twins, to which the same is done; nodes are those that were made beside New's own.
type both struct {
	real, twin *world.World
	nodes      []ref.Ref
}

func newBoth(t testing.TB, records int) *both {
	t.Helper()
	b := &both{}
	for _, w := range []**world.World{&b.real, &b.twin} {
		var e api.Errno
		if *w, e = world.New(2, 3, 4, 60, records); e != api.OK {
			t.Fatalf("P8.1: New is %d", e)
		}
	}
	return b
}

// do does the same to each.
func (b *both) do(what func(w *world.World)) {
	what(b.real)
	what(b.twin)
}

// node puts one more into each: an inner one of so many ways, that are all different from others', or (none) a leaf.
func (b *both) node(t testing.TB, ways int) ref.Ref {
	t.Helper()
	k := len(b.nodes)
	n := arena.Node{Pairs: leaf.Leaf{{Key: int64(k), Value: 5}, {Key: 70, Value: 6}}}
	if ways > 0 {
		n = arena.Node{Inner: true, Tagged: k%2 == 1, Ways: inner.Inner{}}
	}
	for i := range ways {
		if n.Ways.Ways = append(n.Ways.Ways, wayOf(k, i)); i > 0 {
			n.Ways.Keys = append(n.Ways.Keys, int64(100*k+i))
		}
	}
	return b.put(t, n)
}

func (b *both) put(t testing.TB, n arena.Node) ref.Ref {
	t.Helper()
	var out ref.Ref
	b.do(func(w *world.World) { out, _ = w.Arena.Alloc(n) })
	if out == 0 {
		t.Fatal("P4.1: there is no room")
	}
	b.nodes = append(b.nodes, out)
	return out
}

// wayOf is what way i of node k is at first.
func wayOf(k, i int) ref.Ref { return ref.Ref(1000 + 100*k + i) }

// make is a record in each.
func (b *both) make(t testing.TB, r record.Record) int64 {
	t.Helper()
	var n int64
	b.do(func(w *world.World) { n, _ = w.Records.Make(r) })
	if n == 0 {
		t.Fatalf("P5.1: record %v is refused", r)
	}
	return n
}

// pair is one job in both worlds.
type pair struct {
	worlds *both
	real   *thread.Thread
	twin   *twin
	out    string // what the real one came to
}

func (b *both) start(j job) *pair {
	p := &pair{worlds: b, twin: &twin{w: b.twin, begin: j.twin}}
	p.real = thread.New(func(x *thread.Thread) []int64 {
		p.out = j.real(world.Task{Thread: x, World: b.real})
		return nil
	})
	return p
}

func (p *pair) ended() bool { return p.twin.ended() }

// stepUnheld is one of both, that aren't held against each other.
func (p *pair) stepUnheld() {
	p.real.Step()
	p.twin.step()
}

// hold holds both against each other.
func (p *pair) hold(t testing.TB) {
	t.Helper()
	if p.real.Done() != p.ended() || p.real.Steps() != len(p.twin.told) {
		t.Fatalf("P10.1, P10.2: behind touch %d the end is told as %t, not %t; %d touches are told", len(p.twin.told), p.real.Done(), p.ended(), p.real.Steps())
	}
	if p.ended() && p.out != p.twin.out {
		t.Fatalf("P10.1, P10.2: it comes to %s, not %s", p.out, p.twin.out)
	}
	if got, want := dump(p.worlds.real, p.worlds.nodes), dump(p.worlds.twin, p.worlds.nodes); got != want {
		t.Fatalf("P10.1, P10.2: behind touch %d all is\n%s, not\n%s", len(p.twin.told), got, want)
	}
}

func (p *pair) step(t testing.TB) {
	t.Helper()
	p.stepUnheld()
	p.hold(t)
}

// run goes on to the end: what it came to, and how many touches it took.
func (p *pair) run(t testing.TB) (string, int) {
	t.Helper()
	for range 1000 {
		if p.step(t); p.ended() {
			return p.out, p.real.Steps()
		}
	}
	t.Fatal("P1: no end")
	return "", 0
}

// run does a job alone.
func (b *both) run(t testing.TB, j job) (string, int) {
	t.Helper()
	return b.start(j).run(t)
}

// dump is all that may change in a world. Only nodes that are right are asked.
func dump(w *world.World, nodes []ref.Ref) string {
	out := fmt.Sprint(w.Arena.Used(), nowOf(w, w.Entry), w.Epochs.Now(), w.Epochs.Said(0), w.Epochs.Limbo())
	for _, r := range nodes {
		out += fmt.Sprint(" | ", nowOf(w, r))
	}
	for i := range w.Records.Len() {
		n := int64(i) + 1
		out += fmt.Sprint(" / ", w.Records.Look(n), w.Records.State(n), w.Records.All(n))
	}
	return out
}

// now is what changes of a node, as it is.
type now struct {
	info int64
	mark bool
	ways string
}

func nowOf(w *world.World, r ref.Ref) now {
	return now{w.Arena.Info(r), w.Arena.Mark(r), fmt.Sprint(waysNow(w, r))}
}

func waysNow(w *world.World, r ref.Ref) []ref.Ref {
	var out []ref.Ref
	for i := range w.Arena.Look(r).Ways.Ways {
		out = append(out, w.Arena.Way(r, i))
	}
	return out
}

// snapOf is a node as it is now, looked at from without.
func (b *both) snapOf(r ref.Ref) Snap {
	return Snap{Ref: r, Info: b.real.Arena.Info(r), Node: b.real.Arena.Look(r), Ways: waysNow(b.real, r)}
}

func (b *both) snapsOf(l ...ref.Ref) []Snap {
	var out []Snap
	for _, r := range l {
		out = append(out, b.snapOf(r))
	}
	return out
}

// noFaults: no node was touched that isn't right.
func (b *both) noFaults(t testing.TB) {
	t.Helper()
	if b.real.Arena.Faults() != 0 {
		t.Errorf("P1: %d faults", b.real.Arena.Faults())
	}
}

func sameSnap(a, b Snap) bool {
	return a.Ref == b.Ref && a.Info == b.Info && slices.Equal(a.Ways, b.Ways) && tell(a.Node) == tell(b.Node)
}
