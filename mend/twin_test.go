package mend

import (
	"iter"
	"slices"
	"strconv"
	"strings"

	"boscage/arena"
	"boscage/inner"
	"boscage/leaf"
	"boscage/llx"
	"boscage/record"
	"boscage/ref"
	"boscage/seek"
	"boscage/world"
)

// twin is work as the chapters' words say it, in a world of its own. It is never gone through again: it stands still ahead of each touch.
type twin struct {
	b     *both
	w     *world.World
	me    int
	told  []string // each touch, and what it told
	fixes []string // each Fix that it came to, and what that came to
	wait  func(string)
	next  func() (string, bool)
	stop  func()
	ahead string // the touch that is next; none till the first Step
	begun bool
	ended bool
	out   string
}

// stopped is what work that isn't to go on any more is stopped by.
type stopped struct{}

func (p *twin) start(work func(*twin) string) {
	p.next, p.stop = iter.Pull(func(yield func(string) bool) {
		defer func() {
			if what := recover(); what != nil && what != any(stopped{}) {
				panic(what)
			}
		}()
		p.wait = func(name string) {
			if !yield(name) {
				panic(stopped{})
			}
		}
		p.out = work(p)
	})
}

// step does the next touch, and goes on up to the one behind it.
func (p *twin) step() {
	if !p.begun {
		p.begun = true
		p.goOn()
	}
	p.goOn()
}

func (p *twin) goOn() {
	if p.ended {
		return
	}
	name, more := p.next()
	p.ahead, p.ended = name, !more
}

// touches are a twin's by their names.
func (p *twin) touches() string {
	out := ""
	for _, told := range p.told {
		name, _, _ := strings.Cut(told, ":")
		out += name + ", "
	}
	return out
}

func (p *twin) number(name string, touch func() int64) int64 {
	p.wait(name)
	told := touch()
	p.told = append(p.told, name+": "+strconv.FormatInt(told, 10))
	return told
}

func (p *twin) yes(name string, touch func() bool) bool {
	return p.number(name, func() int64 {
		if touch() {
			return 1
		}
		return 0
	}) == 1
}

func (p *twin) does(name string, touch func()) {
	p.number(name, func() int64 { touch(); return 0 })
}

// of is a touch's name, with the node's.
func (p *twin) of(word string, r ref.Ref) string { return word + " " + p.b.name(r) }

func (p *twin) mark(r ref.Ref) bool {
	return p.yes(p.of("Mark", r), func() bool { return p.w.Arena.Mark(r) })
}

func (p *twin) info(r ref.Ref) int64 {
	return p.number(p.of("Info", r), func() int64 { return p.w.Arena.Info(r) })
}

func (p *twin) state(n int64) record.State {
	return record.State(p.number("State", func() int64 { return int64(p.w.Records.State(n)) }))
}

func (p *twin) way(r ref.Ref, i int) ref.Ref {
	return ref.Ref(p.number(p.of("Way", r), func() int64 { return int64(p.w.Arena.Way(r, i)) }))
}

// record is chapter 9's Record.
func (p *twin) record(n int64) bool {
	r := p.w.Records.Look(n)
	for i, node := range r.Nodes {
		if p.yes(p.of("SwapInfo", node), func() bool { return p.w.Arena.SwapInfo(node, r.Infos[i], n) }) || p.info(node) == n {
			continue
		}
		if p.yes("All", func() bool { return p.w.Records.All(n) }) {
			return true
		}
		p.does("Set", func() { p.w.Records.Set(n, record.Aborted) })
		return false
	}
	p.does("SetAll", func() { p.w.Records.SetAll(n) })
	for i := r.Keep; i < len(r.Nodes); i++ {
		p.does(p.of("SetMark", r.Nodes[i]), func() { p.w.Arena.SetMark(r.Nodes[i]) })
	}
	if len(r.Nodes) > 0 {
		p.yes(p.of("SwapWay", r.Nodes[0]), func() bool { return p.w.Arena.SwapWay(r.Nodes[0], r.Way, r.Old, r.New) })
	}
	p.does("Set", func() { p.w.Records.Set(n, record.Done) })
	return true
}

// load is chapter 10's Load: false, if it isn't Seen.
func (p *twin) load(r ref.Ref) (llx.Snap, bool) {
	first := p.mark(r)
	n := p.info(r)
	was := p.state(n)
	second := p.mark(r)
	if was == record.Aborted || was == record.Done && !second {
		s := llx.Snap{Ref: r, Info: n, Node: p.w.Arena.Look(r)}
		for i := range s.Node.Ways.Ways {
			s.Ways = append(s.Ways, p.way(r, i))
		}
		if p.info(r) == n {
			return s, true
		}
	}
	was = p.state(n)
	done := was == record.Done
	if was == record.Going {
		done = p.record(n)
	}
	if done && first {
		return llx.Snap{}, false
	}
	if m := p.info(r); p.state(m) == record.Going {
		p.record(m)
	}
	return llx.Snap{}, false
}

// loads is chapter 10's Loads.
func (p *twin) loads(l ...ref.Ref) ([]llx.Snap, bool) {
	var out []llx.Snap
	for _, r := range l {
		s, seen := p.load(r)
		if !seen {
			return nil, false
		}
		out = append(out, s)
	}
	return out, true
}

// store is chapter 10's Store.
func (p *twin) store(l []llx.Snap, keep, way int, old, now ref.Ref) (done, none bool) {
	r := record.Record{Keep: keep, Way: way, Old: old, New: now}
	for _, s := range l {
		r.Nodes, r.Infos = append(r.Nodes, s.Ref), append(r.Infos, s.Info)
	}
	ok := false
	n := p.number("Record", func() int64 {
		var n int64
		n, ok = p.w.Records.Make(r)
		return n
	})
	if !ok {
		return false, true
	}
	return p.record(n), false
}

// path is chapter 11's Path.
func (p *twin) path(key int64) []seek.Step {
	var out []seek.Step
	for r := p.w.Entry; ; {
		s := seek.Step{Ref: r, Node: p.w.Arena.Look(r)}
		if !s.Node.Inner {
			return append(out, s)
		}
		for s.Way < len(s.Node.Ways.Keys) && s.Node.Ways.Keys[s.Way] <= key {
			s.Way++
		}
		out = append(out, s)
		r = p.way(r, s.Way)
	}
}

// make, drop, leave, enter and end are chapter 8's Make, Drop, Leave, Begin and End.
func (p *twin) make(n arena.Node) ref.Ref {
	return ref.Ref(p.number("Alloc", func() int64 {
		r, ok := p.w.Arena.Alloc(n)
		if ok {
			p.b.live = append(p.b.live, r)
		}
		return int64(r)
	}))
}

func (p *twin) inner(tagged bool, keys []int64, ways []ref.Ref) ref.Ref {
	return p.make(arena.Node{Inner: true, Tagged: tagged, Ways: inner.Inner{Keys: keys, Ways: ways}})
}

func (p *twin) free(r ref.Ref) bool {
	p.b.live = slices.DeleteFunc(p.b.live, func(o ref.Ref) bool { return o == r })
	return p.w.Arena.Free(r)
}

func (p *twin) drop(l ...ref.Ref) {
	for _, r := range l {
		if r != 0 {
			p.yes(p.of("Free", r), func() bool { return p.free(r) })
		}
	}
}

func (p *twin) leave(l ...ref.Ref) {
	for _, r := range l {
		at := p.number("Now", p.w.Epochs.Now)
		p.does(p.of("Leave", r), func() { p.w.Epochs.Leave(p.me, r, at) })
	}
}

func (p *twin) enter() {
	now := p.number("Now", p.w.Epochs.Now)
	p.does("Say", func() { p.w.Epochs.Say(p.me, now) })
	all := true
	for i := 0; all && i < p.w.Epochs.Len(); i++ {
		said := p.number("Said", func() int64 { return p.w.Epochs.Said(i) })
		all = said == now || said == -1
	}
	if all {
		p.yes("Swap", func() bool { return p.w.Epochs.Swap(now) })
	}
	now = p.number("Now", p.w.Epochs.Now)
	ready := func() int64 {
		r := p.w.Epochs.Ready(p.me, now)
		if r != 0 {
			p.free(r)
		}
		return int64(r)
	}
	for p.number("Ready", ready) != 0 {
	}
}

func (p *twin) end() {
	p.does("Say", func() { p.w.Epochs.Say(p.me, -1) })
}

// untag is chapter 12's Fix.
func (p *twin) untag(up []seek.Step, way int, node ref.Ref) (done, none bool) {
	if len(up) == 1 {
		return p.untagRoot(up[0].Ref, way, node)
	}
	g, above := up[len(up)-2], up[len(up)-1].Ref
	l, seen := p.loads(g.Ref, above, node)
	if !seen || !isWay(l[0], g.Way, above) || !isWay(l[1], way, node) || l[1].Node.Tagged {
		return false, false
	}
	var keys []int64
	var ways []ref.Ref
	for i, r := range l[1].Ways {
		if i > 0 {
			keys = append(keys, l[1].Node.Ways.Keys[i-1])
		}
		if i == way {
			keys, ways = append(keys, l[2].Node.Ways.Keys...), append(ways, l[2].Ways...)
		} else {
			ways = append(ways, r)
		}
	}
	if len(ways) <= p.w.B {
		now := p.inner(false, keys, ways)
		return p.swap(l, g.Way, now, []ref.Ref{now})
	}
	half := len(ways) / 2
	a := p.inner(false, keys[:half-1], ways[:half])
	b := p.inner(false, keys[half:], ways[half:])
	made := []ref.Ref{a, b}
	now := ref.Ref(0)
	if a != 0 && b != 0 {
		now = p.inner(g.Ref != p.w.Entry, keys[half-1:half], []ref.Ref{a, b})
		made = append(made, now)
	}
	return p.swap(l, g.Way, now, made)
}

func (p *twin) untagRoot(entry ref.Ref, way int, node ref.Ref) (done, none bool) {
	l, seen := p.loads(entry, node)
	if !seen || !isWay(l[0], way, node) {
		return false, false
	}
	now := p.inner(false, l[1].Node.Ways.Keys, l[1].Ways)
	return p.swap(l, way, now, []ref.Ref{now})
}

// fill is chapter 13's Fix.
func (p *twin) fill(up []seek.Step, way int, node ref.Ref) (done, none bool) {
	if len(up) == 1 {
		return p.fillRoot(up[0].Ref, way, node)
	}
	g, above := up[len(up)-2], up[len(up)-1].Ref
	l, seen := p.loads(g.Ref, above)
	if !seen || !isWay(l[0], g.Way, above) || !isWay(l[1], way, node) {
		return false, false
	}
	first, second, beside := way-1, way, way-1
	if way == 0 {
		first, second, beside = 0, 1, 1
	}
	if r := l[1].Ways[beside]; p.w.Arena.Look(r).Tagged {
		return p.untag(up, beside, r)
	}
	both, seen := p.loads(l[1].Ways[first], l[1].Ways[second])
	if !seen || both[0].Node.Tagged || both[1].Node.Tagged || both[0].Node.Inner != both[1].Node.Inner {
		return false, false
	}
	now, made := p.together(g.Ref == p.w.Entry, l[1], first, both)
	return p.swap(append(l, both...), g.Way, now, made)
}

func (p *twin) fillRoot(entry ref.Ref, way int, node ref.Ref) (done, none bool) {
	l, seen := p.loads(entry, node)
	if !seen || !isWay(l[0], way, node) || len(l[1].Ways) != 1 {
		return false, false
	}
	below, seen := p.load(l[1].Ways[0])
	if !seen {
		return false, false
	}
	now := ref.Ref(0)
	if below.Node.Inner {
		now = p.inner(false, below.Node.Ways.Keys, below.Ways)
	} else {
		now = p.make(arena.Node{Pairs: below.Node.Pairs})
	}
	return p.swap(append(l, below), way, now, []ref.Ref{now})
}

// entries are two nodes' together: pairs, or ways and the keys between.
type entries struct {
	isInner bool
	pairs   leaf.Leaf
	keys    []int64
	ways    []ref.Ref
}

func entriesOf(l []llx.Snap, key int64) entries {
	out := entries{isInner: l[0].Node.Inner}
	for i, s := range l {
		if i > 0 {
			out.keys = append(out.keys, key)
		}
		out.pairs = append(out.pairs, s.Node.Pairs...)
		out.keys = append(out.keys, s.Node.Ways.Keys...)
		out.ways = append(out.ways, s.Ways...)
	}
	return out
}

func (e entries) len() int {
	if e.isInner {
		return len(e.ways)
	}
	return len(e.pairs)
}

// node is one of some of them.
func (p *twin) node(e entries, from, to int) ref.Ref {
	if e.isInner {
		return p.inner(false, e.keys[from:to-1], e.ways[from:to])
	}
	return p.make(arena.Node{Pairs: e.pairs[from:to]})
}

// together makes what is to come instead of p and both: what is put in (0: there was no room), and all that was made.
func (p *twin) together(isRoot bool, above llx.Snap, first int, both []llx.Snap) (ref.Ref, []ref.Ref) {
	keys, ways := slices.Clone(above.Node.Ways.Keys), slices.Clone(above.Ways)
	all := entriesOf(both, keys[first])
	if all.len() < 2*p.w.A {
		one := p.node(all, 0, all.len())
		if one == 0 || isRoot && len(ways) == 2 {
			return one, []ref.Ref{one}
		}
		ways[first] = one
		now := p.inner(false, slices.Delete(keys, first, first+1), slices.Delete(ways, first+1, first+2))
		return now, []ref.Ref{one, now}
	}
	half := all.len() / 2
	a := p.node(all, 0, half)
	b := p.node(all, half, all.len())
	if a == 0 || b == 0 {
		return 0, []ref.Ref{a, b}
	}
	ways[first], ways[first+1] = a, b
	if all.isInner {
		keys[first] = all.keys[half-1]
	} else {
		keys[first] = all.pairs[half].Key
	}
	now := p.inner(false, keys, ways)
	return now, []ref.Ref{a, b, now}
}

// swap is the end of each Fix: what is put in instead of the second node, or what is freed.
func (p *twin) swap(l []llx.Snap, way int, now ref.Ref, made []ref.Ref) (done, none bool) {
	if now == 0 {
		p.drop(made...)
		return false, true
	}
	done, none = p.store(l, 1, way, l[1].Ref, now)
	if !done {
		p.drop(made...)
		return false, none
	}
	for _, s := range l[1:] {
		p.leave(s.Ref)
	}
	return true, false
}

// mend is this chapter's Path; each Fix that it comes to is noted, with what it came to.
func (p *twin) mend(key int64) bool {
	for {
		l := p.path(key)
		at := 0
		for i := len(l) - 1; i > 0; i-- {
			if l[i].Node.Tagged || few(p.w.A, l[i].Node, i == 1) {
				at = i
			}
		}
		if at == 0 {
			return false
		}
		word, fix := "fill ", p.fill
		if l[at].Node.Tagged {
			word, fix = "untag ", p.untag
		}
		done, none := fix(l[:at], l[at-1].Way, l[at].Ref)
		p.fixes = append(p.fixes, word+p.b.name(l[at].Ref)+outOf(done, none))
		if none {
			return true
		}
	}
}

// outOf is what a Fix came to, as a word.
func outOf(done, none bool) string {
	switch {
	case done:
		return ""
	case none:
		return ": none"
	default:
		return ": neither"
	}
}

func isWay(s llx.Snap, way int, r ref.Ref) bool {
	for i, o := range s.Ways {
		if i == way {
			return o == r
		}
	}
	return false
}
