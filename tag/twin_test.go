package tag

import (
	"fmt"
	"iter"
	"slices"
	"strconv"
	"testing"

	"boscage/api"
	"boscage/arena"
	"boscage/inner"
	"boscage/llx"
	"boscage/record"
	"boscage/ref"
	"boscage/seek"
	"boscage/thread"
	"boscage/world"
)

// twin is work as the chapters' words say it, in a world of its own. It is never gone through again: it stands still ahead of each touch.
type twin struct {
	b     *both
	w     *world.World
	me    int
	told  []string // each touch, and what it told
	wait  func(string)
	next  func() (string, bool)
	stop  func()
	ahead string // the touch that is next; none till the first Step
	begun bool
	ended bool
	out   string
}

// stopped is what work that isn't to go on any more is stopped by.
type stopped struct{}

func (p *twin) start(work func(*twin) string) {
	p.next, p.stop = iter.Pull(func(yield func(string) bool) {
		defer func() {
			if what := recover(); what != nil && what != any(stopped{}) {
				panic(what)
			}
		}()
		p.wait = func(name string) {
			if !yield(name) {
				panic(stopped{})
			}
		}
		p.out = work(p)
	})
}

// step does the next touch, and goes on up to the one behind it.
func (p *twin) step() {
	if !p.begun {
		p.begun = true
		p.goOn()
	}
	p.goOn()
}

func (p *twin) goOn() {
	if p.ended {
		return
	}
	name, more := p.next()
	p.ahead, p.ended = name, !more
}

func (p *twin) number(name string, touch func() int64) int64 {
	p.wait(name)
	told := touch()
	p.told = append(p.told, name+": "+strconv.FormatInt(told, 10))
	return told
}

func (p *twin) yes(name string, touch func() bool) bool {
	return p.number(name, func() int64 {
		if touch() {
			return 1
		}
		return 0
	}) == 1
}

func (p *twin) does(name string, touch func()) {
	p.number(name, func() int64 { touch(); return 0 })
}

// of is a touch's name, with the node's.
func (p *twin) of(word string, r ref.Ref) string { return word + " " + p.b.name(r) }

func (p *twin) mark(r ref.Ref) bool {
	return p.yes(p.of("Mark", r), func() bool { return p.w.Arena.Mark(r) })
}

func (p *twin) info(r ref.Ref) int64 {
	return p.number(p.of("Info", r), func() int64 { return p.w.Arena.Info(r) })
}

func (p *twin) state(n int64) record.State {
	return record.State(p.number("State", func() int64 { return int64(p.w.Records.State(n)) }))
}

func (p *twin) way(r ref.Ref, i int) ref.Ref {
	return ref.Ref(p.number(p.of("Way", r), func() int64 { return int64(p.w.Arena.Way(r, i)) }))
}

// record is chapter 9's Record.
func (p *twin) record(n int64) bool {
	r := p.w.Records.Look(n)
	for i, node := range r.Nodes {
		if p.yes(p.of("SwapInfo", node), func() bool { return p.w.Arena.SwapInfo(node, r.Infos[i], n) }) || p.info(node) == n {
			continue
		}
		if p.yes("All", func() bool { return p.w.Records.All(n) }) {
			return true
		}
		p.does("Set", func() { p.w.Records.Set(n, record.Aborted) })
		return false
	}
	p.does("SetAll", func() { p.w.Records.SetAll(n) })
	for i := r.Keep; i < len(r.Nodes); i++ {
		p.does(p.of("SetMark", r.Nodes[i]), func() { p.w.Arena.SetMark(r.Nodes[i]) })
	}
	if len(r.Nodes) > 0 {
		p.yes(p.of("SwapWay", r.Nodes[0]), func() bool { return p.w.Arena.SwapWay(r.Nodes[0], r.Way, r.Old, r.New) })
	}
	p.does("Set", func() { p.w.Records.Set(n, record.Done) })
	return true
}

// load is chapter 10's Load: false, if it isn't Seen.
func (p *twin) load(r ref.Ref) (llx.Snap, bool) {
	first := p.mark(r)
	n := p.info(r)
	was := p.state(n)
	second := p.mark(r)
	if was == record.Aborted || was == record.Done && !second {
		s := llx.Snap{Ref: r, Info: n, Node: p.w.Arena.Look(r)}
		for i := range s.Node.Ways.Ways {
			s.Ways = append(s.Ways, p.way(r, i))
		}
		if p.info(r) == n {
			return s, true
		}
	}
	was = p.state(n)
	done := was == record.Done
	if was == record.Going {
		done = p.record(n)
	}
	if done && first {
		return llx.Snap{}, false
	}
	if m := p.info(r); p.state(m) == record.Going {
		p.record(m)
	}
	return llx.Snap{}, false
}

func (p *twin) loads(l ...ref.Ref) ([]llx.Snap, bool) {
	var out []llx.Snap
	for _, r := range l {
		s, seen := p.load(r)
		if !seen {
			return nil, false
		}
		out = append(out, s)
	}
	return out, true
}

func (p *twin) store(l []llx.Snap, keep, way int, old, now ref.Ref) (done, none bool) {
	r := record.Record{Keep: keep, Way: way, Old: old, New: now}
	for _, s := range l {
		r.Nodes, r.Infos = append(r.Nodes, s.Ref), append(r.Infos, s.Info)
	}
	ok := false
	n := p.number("Record", func() int64 {
		var n int64
		n, ok = p.w.Records.Make(r)
		return n
	})
	if !ok {
		return false, true
	}
	return p.record(n), false
}

// path is chapter 11's Path.
func (p *twin) path(key int64) []seek.Step {
	var out []seek.Step
	for r := p.w.Entry; ; {
		s := seek.Step{Ref: r, Node: p.w.Arena.Look(r)}
		if !s.Node.Inner {
			return append(out, s)
		}
		for s.Way < len(s.Node.Ways.Keys) && s.Node.Ways.Keys[s.Way] <= key {
			s.Way++
		}
		out = append(out, s)
		r = p.way(r, s.Way)
	}
}

// make, drop, leave, enter and end are chapter 8's Make, Drop, Leave, Begin and End.
func (p *twin) make(n arena.Node) ref.Ref {
	return ref.Ref(p.number("Alloc", func() int64 {
		r, ok := p.w.Arena.Alloc(n)
		if ok {
			p.b.live = append(p.b.live, r)
		}
		return int64(r)
	}))
}

func (p *twin) inner(tagged bool, keys []int64, ways []ref.Ref) ref.Ref {
	return p.make(arena.Node{Inner: true, Tagged: tagged, Ways: inner.Inner{Keys: keys, Ways: ways}})
}

func (p *twin) free(r ref.Ref) bool {
	p.b.live = slices.DeleteFunc(p.b.live, func(o ref.Ref) bool { return o == r })
	return p.w.Arena.Free(r)
}

func (p *twin) drop(l ...ref.Ref) {
	for _, r := range l {
		if r != 0 {
			p.yes(p.of("Free", r), func() bool { return p.free(r) })
		}
	}
}

func (p *twin) leave(l ...ref.Ref) {
	for _, r := range l {
		at := p.number("Now", p.w.Epochs.Now)
		p.does(p.of("Leave", r), func() { p.w.Epochs.Leave(p.me, r, at) })
	}
}

func (p *twin) enter() {
	now := p.number("Now", p.w.Epochs.Now)
	p.does("Say", func() { p.w.Epochs.Say(p.me, now) })
	all := true
	for i := 0; all && i < p.w.Epochs.Len(); i++ {
		said := p.number("Said", func() int64 { return p.w.Epochs.Said(i) })
		all = said == now || said == -1
	}
	if all {
		p.yes("Swap", func() bool { return p.w.Epochs.Swap(now) })
	}
	now = p.number("Now", p.w.Epochs.Now)
	ready := func() int64 {
		r := p.w.Epochs.Ready(p.me, now)
		if r != 0 {
			p.free(r)
		}
		return int64(r)
	}
	for p.number("Ready", ready) != 0 {
	}
}

func (p *twin) end() {
	p.does("Say", func() { p.w.Epochs.Say(p.me, -1) })
}

// fix is this chapter's Fix.
func (p *twin) fix(up []seek.Step, way int, node ref.Ref) (done, none bool) {
	if len(up) == 1 {
		l, seen := p.loads(up[0].Ref, node)
		if !seen || !isWay(l[0], way, node) {
			return false, false
		}
		now := p.inner(false, l[1].Node.Ways.Keys, l[1].Ways)
		return p.swap(l, way, node, now, []ref.Ref{now})
	}
	g, above := up[len(up)-2], up[len(up)-1].Ref
	l, seen := p.loads(g.Ref, above, node)
	if !seen || !isWay(l[0], g.Way, above) || !isWay(l[1], way, node) || l[1].Node.Tagged {
		return false, false
	}
	keys, ways := absorbed(l[1], way, l[2])
	if len(ways) <= p.w.B {
		now := p.inner(false, keys, ways)
		return p.swap(l, g.Way, above, now, []ref.Ref{now})
	}
	half := len(ways) / 2
	a := p.inner(false, keys[:half-1], ways[:half])
	b := p.inner(false, keys[half:], ways[half:])
	made := []ref.Ref{a, b}
	now := ref.Ref(0)
	if a != 0 && b != 0 {
		now = p.inner(g.Ref != p.w.Entry, keys[half-1:half], []ref.Ref{a, b})
		made = append(made, now)
	}
	return p.swap(l, g.Way, above, now, made)
}

// swap is the end of each Fix: what is put in, or what is freed.
func (p *twin) swap(l []llx.Snap, way int, old, now ref.Ref, made []ref.Ref) (done, none bool) {
	if now == 0 {
		p.drop(made...)
		return false, true
	}
	done, none = p.store(l, 1, way, old, now)
	if !done {
		p.drop(made...)
		return false, none
	}
	for _, s := range l[1:] {
		p.leave(s.Ref)
	}
	return true, false
}

func isWay(s llx.Snap, way int, r ref.Ref) bool {
	for i, o := range s.Ways {
		if i == way {
			return o == r
		}
	}
	return false
}

// absorbed are a node's keys and ways, those of another one standing instead of way i.
func absorbed(s llx.Snap, i int, o llx.Snap) (keys []int64, ways []ref.Ref) {
	for j, r := range s.Ways {
		if j > 0 {
			keys = append(keys, s.Node.Ways.Keys[j-1])
		}
		if j == i {
			keys, ways = append(keys, o.Node.Ways.Keys...), append(ways, o.Ways...)
		} else {
			ways = append(ways, r)
		}
	}
	return keys, ways
}

// job is work, as the package does it and as its twin does; what it comes to is told as a text.
type job struct {
	real func(world.Task) string
	twin func(*twin) string
}

func tell(l ...any) string { return fmt.Sprintf("%+v", l) }

// What a Fix comes to.
var (
	isDone    = tell(true, false)
	isNone    = tell(false, true)
	isNeither = tell(false, false)
)

func fixJob(up []seek.Step, way int, node ref.Ref) job {
	return job{
		func(t world.Task) string { done, none := Fix(t, up, way, node); return tell(done, none) },
		func(p *twin) string { done, none := p.fix(up, way, node); return tell(done, none) },
	}
}

// copyJob puts another leaf instead of one that a key goes to, with the value one more, as somebody who changes the tree does.
func copyJob(key int64) job {
	more := func(n arena.Node) arena.Node {
		n.Pairs, _, _ = n.Pairs.Put(n.Pairs[0].Key, n.Pairs[0].Value+1)
		return n
	}
	return job{
		func(t world.Task) string {
			above, at := seek.Leaf(t, key)
			l, seen := llx.Loads(t, above.Ref, at.Ref)
			if !seen || !l[0].Goes(above.Way, at.Ref) {
				return isNeither
			}
			now := t.Make(more(l[1].Node))
			done, none := llx.Store(t, l, 1, above.Way, at.Ref, now)
			if done {
				t.Leave(at.Ref)
			} else {
				t.Drop(now)
			}
			return tell(done, none)
		},
		func(p *twin) string {
			l := p.path(key)
			above, at := l[len(l)-2], l[len(l)-1]
			snaps, seen := p.loads(above.Ref, at.Ref)
			if !seen || !isWay(snaps[0], above.Way, at.Ref) {
				return isNeither
			}
			now := p.make(more(snaps[1].Node))
			done, none := p.store(snaps, 1, above.Way, at.Ref, now)
			if done {
				p.leave(at.Ref)
			} else {
				p.drop(now)
			}
			return tell(done, none)
		},
	}
}

// thenJob is some jobs, one behind the other.
func thenJob(l ...job) job {
	return job{
		func(t world.Task) string {
			out := ""
			for _, j := range l {
				out += j.real(t)
			}
			return out
		},
		func(p *twin) string {
			out := ""
			for _, j := range l {
				out += j.twin(p)
			}
			return out
		},
	}
}

// both are a world of tasks, and one of twins, to which the same is done.
type both struct {
	real, twin *world.World
	live       []ref.Ref // nodes whose places are used
	names      map[ref.Ref]string
	pairs      []*pair
}

// setting is what a world is to be: B, how many places are left behind the tree is made, how many records there are.
type setting struct {
	b, left, records int
}

// plenty has room for all.
func plenty(b int) setting { return setting{b, 30, 100} }

func newBoth(t testing.TB, c setting, n *tree) *both {
	t.Helper()
	b := &both{names: map[ref.Ref]string{}}
	for _, w := range []**world.World{&b.real, &b.twin} {
		var e api.Errno
		if *w, e = world.New(2, c.b, 4, len(n.nodes())+1+c.left, c.records); e != api.OK {
			t.Fatalf("P8.1: New is %d", e)
		}
		first := (*w).Arena.Way((*w).Entry, 0)
		(*w).Arena.Free(first)
		(*w).Arena.SwapWay((*w).Entry, 0, first, n.plant(t, *w))
	}
	b.live = append(b.live, b.real.Entry)
	b.names[b.real.Entry] = "entry"
	for _, o := range n.nodes() {
		b.live = append(b.live, o.ref)
		b.names[o.ref] = o.name
	}
	return b
}

// stop ends the twins that aren't at their end.
func (b *both) stop() {
	for _, p := range b.pairs {
		p.twin.stop()
	}
	b.pairs = nil
}

// name is a node's, or that of the place of one that was made later.
func (b *both) name(r ref.Ref) string {
	if name := b.names[r]; name != "" {
		return name
	}
	return "#" + strconv.Itoa(r.Place())
}

// do does the same to each.
func (b *both) do(what func(w *world.World)) {
	what(b.real)
	what(b.twin)
}

// add puts one more node into each.
func (b *both) add(t testing.TB, n arena.Node) ref.Ref {
	t.Helper()
	var r ref.Ref
	b.do(func(w *world.World) { r, _ = w.Arena.Alloc(n) })
	if r == 0 {
		t.Fatal("P4.1: there is no room")
	}
	b.live = append(b.live, r)
	return r
}

// make is a record in each.
func (b *both) make(t testing.TB, r record.Record) int64 {
	t.Helper()
	var n int64
	b.do(func(w *world.World) { n, _ = w.Records.Make(r) })
	if n == 0 {
		t.Fatalf("P5.1: record %v is refused", r)
	}
	return n
}

// leads makes a way go to another node.
func (b *both) leads(r ref.Ref, way int, to ref.Ref) {
	b.do(func(w *world.World) { w.Arena.SwapWay(r, way, w.Arena.Way(r, way), to) })
}

// upTo is the way down to a key, as it stands there, without those from a node on: it, and which way of the last one that node is.
func (b *both) upTo(t testing.TB, n *tree) ([]seek.Step, int) {
	t.Helper()
	var out []seek.Step
	for r := b.real.Entry; r != n.ref; {
		s := seek.Step{Ref: r, Node: b.real.Arena.Look(r)}
		for s.Way < len(s.Node.Ways.Keys) && s.Node.Ways.Keys[s.Way] <= n.first() {
			s.Way++
		}
		if !s.Node.Inner {
			t.Fatalf("node %s isn't there", n.name)
		}
		out = append(out, s)
		r = b.real.Arena.Way(r, s.Way)
	}
	return out, out[len(out)-1].Way
}

// fixing is a Fix of a node, with the way down to it as it stands there.
func (b *both) fixing(t testing.TB, n *tree) job {
	t.Helper()
	up, way := b.upTo(t, n)
	return fixJob(up, way, n.ref)
}

// pair is one job in both worlds.
type pair struct {
	b    *both
	real *thread.Thread
	twin *twin
	out  string // what the real one came to
}

// start is a job of the next thread.
func (b *both) start(j job) *pair {
	me := len(b.pairs) % 4
	p := &pair{b: b, twin: &twin{b: b, w: b.twin, me: me}}
	p.twin.start(j.twin)
	p.real = thread.New(func(x *thread.Thread) []int64 {
		p.out = j.real(world.Task{Thread: x, World: b.real, Me: me})
		return nil
	})
	b.pairs = append(b.pairs, p)
	return p
}

func (p *pair) ended() bool { return p.twin.ended }

// hold holds both against each other.
func (p *pair) hold(t testing.TB) {
	t.Helper()
	p.holdTold(t)
	p.b.hold(t)
}

// holdTold holds what is told of both.
func (p *pair) holdTold(t testing.TB) {
	t.Helper()
	if p.real.Done() != p.ended() || p.real.Steps() != len(p.twin.told) {
		t.Fatalf("P12.1: the end is told as %t, %d touches are told; not %t, %q", p.real.Done(), p.real.Steps(), p.ended(), p.twin.told)
	}
	if p.ended() && p.out != p.twin.out {
		t.Fatalf("P12.1: it comes to %s, not %s", p.out, p.twin.out)
	}
}

func (b *both) hold(t testing.TB) {
	t.Helper()
	if got, want := b.dump(b.real), b.dump(b.twin); got != want {
		told := ""
		for _, p := range b.pairs {
			told += fmt.Sprintf("\n%q", p.twin.told)
		}
		t.Fatalf("P12.1: all is\n%s, not\n%s, behind%s", got, want, told)
	}
}

// stepUnheld is one of both, that aren't held against each other.
func (p *pair) stepUnheld() {
	p.real.Step()
	p.twin.step()
}

func (p *pair) step(t testing.TB) {
	t.Helper()
	p.stepUnheld()
	p.hold(t)
}

// run goes on to the end: what it came to, and how many touches it took.
func (p *pair) run(t testing.TB) (string, int) {
	t.Helper()
	for range 5000 {
		if p.step(t); p.ended() {
			return p.out, p.real.Steps()
		}
	}
	t.Fatal("P1: no end")
	return "", 0
}

// run does a job alone.
func (b *both) run(t testing.TB, j job) (string, int) {
	t.Helper()
	return b.start(j).run(t)
}

// dump is all that may change in a world. Only nodes whose places are used are asked.
func (b *both) dump(w *world.World) string {
	var out []byte
	number := func(l ...int64) {
		for _, n := range l {
			out = strconv.AppendInt(append(out, ' '), n, 10)
		}
	}
	number(int64(w.Arena.Used()), w.Epochs.Now(), int64(w.Epochs.Limbo()))
	for i := range w.Epochs.Len() {
		number(w.Epochs.Said(i))
	}
	for _, r := range b.live {
		n := w.Arena.Look(r)
		out = append(out, " | "...)
		number(int64(r), w.Arena.Info(r))
		out = strconv.AppendBool(out, w.Arena.Mark(r))
		out = strconv.AppendBool(out, n.Inner)
		out = strconv.AppendBool(out, n.Tagged)
		number(n.Ways.Keys...)
		for _, p := range n.Pairs {
			number(p.Key, p.Value)
		}
		for i := range n.Ways.Ways {
			number(int64(n.Ways.Ways[i]), int64(w.Arena.Way(r, i)))
		}
	}
	for i := range int64(w.Records.Len()) {
		r := w.Records.Look(i + 1)
		out = append(out, " / "...)
		number(int64(w.Records.State(i+1)), int64(r.Keep), int64(r.Way), int64(r.Old), int64(r.New))
		out = strconv.AppendBool(out, w.Records.All(i+1))
		for k, node := range r.Nodes {
			number(int64(node), r.Infos[k])
		}
	}
	return string(out)
}

// noFaults: no node was touched that isn't right.
func (b *both) noFaults(t testing.TB) {
	t.Helper()
	if n := b.real.Arena.Faults(); n != 0 {
		t.Errorf("P1: %d faults", n)
	}
}

// waits is the nodes that wait to be freed, by their names, each with the epoch in which it may be, as threads let them go; they don't wait any more then.
func (b *both) waits(w *world.World) string {
	out := ""
	for me := range w.Epochs.Len() {
		for now := range int64(200) {
			for r := w.Epochs.Ready(me, now); r != 0; r = w.Epochs.Ready(me, now) {
				out += fmt.Sprintf(" %d:%s@%d", me, b.name(r), now)
			}
		}
	}
	return out
}

// holdWaits holds what waits against each other, and tells it.
func (b *both) holdWaits(t testing.TB) string {
	t.Helper()
	got, want := b.waits(b.real), b.waits(b.twin)
	if got != want {
		t.Fatalf("P12.1: there wait%s, not%s", got, want)
	}
	return got
}

// mendJob fixes the first tagged node on the way to a key, so many times at most, as long as there is one.
func mendJob(key int64, times int) job {
	first := func(l []seek.Step) int {
		return slices.IndexFunc(l, func(s seek.Step) bool { return s.Node.Tagged })
	}
	return job{
		func(t world.Task) string {
			out := ""
			for range times {
				l := seek.Path(t, key)
				i := first(l)
				if i < 0 {
					break
				}
				done, none := Fix(t, l[:i], l[i-1].Way, l[i].Ref)
				out += tell(done, none)
			}
			return out
		},
		func(p *twin) string {
			out := ""
			for range times {
				l := p.path(key)
				i := first(l)
				if i < 0 {
					break
				}
				done, none := p.fix(l[:i], l[i-1].Way, l[i].Ref)
				out += tell(done, none)
			}
			return out
		},
	}
}

// besideJob fixes the first tagged node of those below some node on the way to a key, be it on the way or not.
func besideJob(key int64, level int) job {
	return job{
		func(t world.Task) string {
			l := seek.Path(t, key)
			up := l[:1+level%(len(l)-1)]
			above := up[len(up)-1]
			for i := range above.Node.Ways.Ways {
				r := ref.Ref(t.Do(func() int64 { return int64(t.Arena.Way(above.Ref, i)) }))
				if t.Arena.Look(r).Tagged {
					done, none := Fix(t, up, i, r)
					return tell(done, none)
				}
			}
			return ""
		},
		func(p *twin) string {
			l := p.path(key)
			up := l[:1+level%(len(l)-1)]
			above := up[len(up)-1]
			for i := range above.Node.Ways.Ways {
				if r := p.way(above.Ref, i); p.w.Arena.Look(r).Tagged {
					done, none := p.fix(up, i, r)
					return tell(done, none)
				}
			}
			return ""
		},
	}
}
