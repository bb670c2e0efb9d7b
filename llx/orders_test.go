package llx

import (
	"fmt"
	"math/rand"
	"slices"
	"testing"

	"boscage/ref"
	"boscage/thread"
	"boscage/world"
)

// came is what an operation of a player came to.
type came uint8

const (
	isOpen     came = iota // it isn't at its end
	notLoaded              // one node wasn't Seen
	seenStill              // those that were loaded were Still so
	seenChange             // they weren't
	stored                 // Store was done
	refused                // it wasn't
	cames
)

// op is what a player does: Loads of some nodes, then Still of them, or Store: the first node's way is another one then. Each op's now is its own, so that a way tells who changed it.
type op struct {
	nodes []ref.Ref
	still bool
	keep  int
	way   int
	now   ref.Ref
}

// doing is an operation under way, as it is looked at from without behind each touch.
type doing struct {
	op
	snaps   []Snap // what it loaded, from the last Load's last touch on
	came    came
	begun   bool // Still had its first touch
	stood   bool // all that it loaded stood there as told, at one time behind the last Load and ahead of Still
	always  bool // all that it loaded stood there as told, whenever one looked, from then on till its way was now
	changed bool // its way was now
}

// player does operations, one behind the other.
type player struct {
	*pair
	all []*doing
}

// play is players in both worlds, whose touches are looked at one by one.
type play struct {
	b       *both
	players []*player
}

// join begins operations of one more player.
func (p *play) join(l ...op) {
	q := &player{}
	for _, o := range l {
		q.all = append(q.all, &doing{op: o, always: true})
	}
	q.pair = p.b.start(job{
		func(t world.Task) string {
			var out []any
			for _, o := range l {
				out = append(out, o.real(t)...)
			}
			return tell(out...)
		},
		func(w *twin) rest { return q.from(w, 0, nil) },
	})
	p.players = append(p.players, q)
}

// real is an operation as the package does it.
func (o op) real(t world.Task) []any {
	l, ok := Loads(t, o.nodes...)
	if !ok {
		return []any{notLoaded, l}
	}
	if o.still {
		return []any{Still(t, l), l}
	}
	done, none := Store(t, l, o.keep, o.way, l[0].Ways[o.way], o.now)
	return []any{done, none, l}
}

// from is the operations from i on, as the chapter's words say them.
func (q *player) from(w *twin, i int, out []any) rest {
	if i == len(q.all) {
		return w.tells(out...)
	}
	d := q.all[i]
	return w.loads(d.nodes, nil, func(l []Snap, ok bool) rest {
		if !ok {
			d.came = notLoaded
			return q.from(w, i+1, append(out, notLoaded, l))
		}
		d.snaps = l
		if d.still {
			return w.still(l, func(ok bool) rest {
				d.came = seenStill + came(bit(!ok))
				return q.from(w, i+1, append(out, ok, l))
			})
		}
		return w.store(l, d.keep, d.way, l[0].Ways[d.way], d.now, func(done, none bool) rest {
			d.came = stored + came(bit(!done))
			return q.from(w, i+1, append(out, done, none, l))
		})
	})
}

// step goes on with a player; what all loaded is held against what stands there now.
func (p *play) step(q *player) {
	for _, d := range q.all {
		d.begun = d.begun || d.snaps != nil
	}
	q.stepUnheld()
	for _, q := range p.players {
		for _, d := range q.all {
			p.look(d)
		}
	}
}

// look: what an operation loaded, as it stands there now.
func (p *play) look(d *doing) {
	if d.snaps == nil || d.changed {
		return
	}
	w := p.b.twin
	if !d.still && w.Arena.Way(d.snaps[0].Ref, d.way) == d.now {
		d.changed = true
		return
	}
	ways, infos := true, true
	for _, s := range d.snaps {
		ways = ways && slices.Equal(waysNow(w, s.Ref), s.Ways)
		infos = infos && w.Arena.Info(s.Ref) == s.Info
	}
	d.always = d.always && ways
	d.stood = d.stood || !d.begun && ways && infos
}

// hold holds P10.4, and that a Store that wasn't done changed nothing, of those at their end.
func (p *play) hold(t testing.TB) {
	t.Helper()
	for _, q := range p.players {
		for i, d := range q.all {
			if d.came == seenStill && !d.stood {
				t.Fatalf("P10.4: operation %d: %v are Still so, but never stood there at one time", i, d.snaps)
			}
			if d.came == stored && (!d.always || !d.changed) {
				t.Fatalf("P10.4: operation %d: %v: Store is done; its way changed is %t, all were as told is %t", i, d.snaps, d.changed, d.always)
			}
			if d.came != stored && d.came != isOpen && d.changed {
				t.Fatalf("P10.2: operation %d: %v: Store isn't done, but its way changed", i, d.snaps)
			}
			for j, s := range d.snaps {
				if d.came == stored && j >= d.keep && !p.b.real.Arena.Mark(s.Ref) {
					t.Fatalf("P10.4: operation %d: Store is done, but node %d isn't marked", i, s.Ref)
				}
			}
		}
	}
}

// end: all are at their end: what is marked are the nodes of those that were done, from keep on, and ways tell who was done last.
func (p *play) end(t testing.TB) {
	t.Helper()
	p.hold(t)
	marks := map[ref.Ref]bool{}
	made := map[ref.Ref]bool{}
	for _, q := range p.players {
		for _, d := range q.all {
			for j, s := range d.snaps {
				if d.came == stored && j >= d.keep {
					marks[s.Ref] = true
				}
			}
			made[d.now] = d.came == stored
		}
	}
	for k, r := range p.b.nodes {
		if p.b.real.Arena.Mark(r) != marks[r] {
			t.Fatalf("P10.2: node %d: marked is %t, not %t", k, !marks[r], marks[r])
		}
		for i, way := range waysNow(p.b.real, r) {
			if way != wayOf(k, i) && !made[way] {
				t.Fatalf("P10.2: way %d of node %d is %d, which no Store that was done made", i, k, way)
			}
		}
	}
	p.b.noFaults(t)
	p.loadAll(t)
}

// loadAll: when all are at their end, each node is Seen as it stands there, or it went.
func (p *play) loadAll(t testing.TB) {
	t.Helper()
	for k, r := range p.b.nodes {
		var s Snap
		var status Status
		x := thread.New(func(x *thread.Thread) []int64 {
			s, status = Load(world.Task{Thread: x, World: p.b.real}, r)
			return nil
		})
		for range 99 {
			x.Step()
		}
		if !x.Done() || status == Busy || (status == Gone) != p.b.real.Arena.Mark(r) || status == Seen && !sameSnap(s, p.b.snapOf(r)) {
			t.Fatalf("P10.1: nobody is at node %d: %v, %d", k, s, status)
		}
	}
}

// key is all on which it hangs what may come: what stands there, what each player was told, and what was seen of it.
func (p *play) key() string {
	out := dump(p.b.twin, p.b.nodes)
	for _, q := range p.players {
		out += fmt.Sprint(" ; ", q.twin.told)
		for _, d := range q.all {
			out += fmt.Sprint(d.came, d.begun, d.stood, d.always, d.changed)
		}
	}
	return out
}

func (p *play) open() []int {
	var out []int
	for i, q := range p.players {
		if !q.ended() {
			out = append(out, i)
		}
	}
	return out
}

// everyOrder goes through every order in which players may go on; where two orders come to the same, one of them is gone on with: what was seen of each operation, in all orders, and how many places it came by.
func everyOrder(t testing.TB, set func() *play, end func(*play)) int {
	t.Helper()
	seen := map[string]bool{}
	todo := [][]int{nil}
	for len(todo) > 0 {
		order := todo[len(todo)-1]
		todo = todo[:len(todo)-1]
		p := set()
		for _, i := range order {
			p.step(p.players[i])
		}
		for {
			for _, q := range p.players {
				q.pair.hold(t)
			}
			p.hold(t)
			key := p.key()
			if seen[key] {
				break
			}
			seen[key] = true
			open := p.open()
			if len(open) == 0 {
				p.end(t)
				end(p)
				break
			}
			for _, i := range open[1:] {
				todo = append(todo, append(slices.Clone(order), i))
			}
			order = append(slices.Clone(order), open[0])
			p.step(p.players[open[0]])
		}
	}
	return len(seen)
}

// outcomes are what two players' first operations came to together, and in how many ends.
type outcomes map[[2]came]int

func (o outcomes) count(p *play) {
	o[[2]came{p.players[0].all[0].came, p.players[1].all[0].came}]++
}

// TestTwoStores: two load the same nodes, the last of which is to go, and store: in all orders of their Steps just one is done, and what stands there tells which.
func TestTwoStores(t *testing.T) {
	for _, ways := range [][]int{{1, 0}, {2, 1, 0}} {
		o := outcomes{}
		n := everyOrder(t, func() *play {
			p := &play{b: newBoth(t, 20)}
			for _, k := range ways {
				p.b.node(t, k)
			}
			p.join(op{nodes: p.b.nodes, keep: 1, now: 7001})
			p.join(op{nodes: p.b.nodes, keep: 1, now: 7002})
			return p
		}, func(p *play) {
			o.count(p)
			first, second := p.players[0].all[0].came == stored, p.players[1].all[0].came == stored
			way := p.b.real.Arena.Way(p.b.nodes[0], 0)
			if first == second || first != (way == 7001) || second != (way == 7002) {
				t.Fatalf("P10.2: done: %t, %t; the way is %d", first, second, way)
			}
		})
		if n < 900 || o[[2]came{stored, notLoaded}] == 0 || o[[2]came{stored, refused}] == 0 || o[[2]came{notLoaded, stored}] == 0 || o[[2]came{refused, stored}] == 0 {
			t.Errorf("P10.2: %d places, ends: %v", n, o)
		}
	}
}

// meeting is two that store, at the same time; which of neither, just one, both may be done.
type meeting struct {
	first, second      []int // nodes
	keep1, keep2       int
	neither, one, both bool
}

func (c meeting) set(t testing.TB) *play {
	p := &play{b: newBoth(t, 20)}
	for _, ways := range []int{2, 1, 1} {
		p.b.node(t, ways)
	}
	p.join(op{nodes: p.b.which(c.first...), keep: c.keep1, now: 7001})
	p.join(op{nodes: p.b.which(c.second...), keep: c.keep2, now: 7002})
	return p
}

func (b *both) which(l ...int) []ref.Ref {
	var out []ref.Ref
	for _, k := range l {
		out = append(out, b.nodes[k])
	}
	return out
}

// TestStoresThatMeet: none goes, or one that the other one keeps; nodes in common, or none; in one order, or in two.
func TestStoresThatMeet(t *testing.T) {
	for _, c := range []meeting{
		{first: []int{0}, second: []int{0}, keep1: 1, keep2: 1, one: true, both: true},
		{first: []int{0}, second: []int{0}, keep1: 0, keep2: 1, one: true, both: true},
		{first: []int{0}, second: []int{0}, keep1: 0, keep2: 0, one: true},
		{first: []int{0, 1}, second: []int{0, 1}, keep1: 2, keep2: 2, one: true, both: true},
		{first: []int{0, 1}, second: []int{1, 0}, keep1: 2, keep2: 2, neither: true, one: true, both: true},
		{first: []int{0, 1}, second: []int{1, 0}, keep1: 1, keep2: 1, neither: true, one: true},
		{first: []int{0, 1}, second: []int{1}, keep1: 1, keep2: 1, one: true, both: true},
		{first: []int{0, 1}, second: []int{1, 2}, keep1: 1, keep2: 1, one: true, both: true},
		{first: []int{0, 1}, second: []int{2, 1}, keep1: 1, keep2: 1, one: true},
		{first: []int{0}, second: []int{1}, keep1: 1, keep2: 1, both: true},
	} {
		var ends [3]int
		everyOrder(t, func() *play { return c.set(t) }, func(p *play) {
			ends[bit(p.players[0].all[0].came == stored)+bit(p.players[1].all[0].came == stored)]++
		})
		if (ends[0] > 0) != c.neither || (ends[1] > 0) != c.one || (ends[2] > 0) != c.both {
			t.Errorf("P10.2: %+v: neither, one, both were done in %v ends", c, ends)
		}
	}
}

// TestBehindALoad: one changes a node, any of three, behind another's Load of it: nothing is stored over it, and they aren't Still so.
func TestBehindALoad(t *testing.T) {
	for at := range 3 {
		for _, still := range []bool{false, true} {
			p := &play{b: newBoth(t, 20)}
			for range 3 {
				p.b.node(t, 2)
			}
			p.join(op{nodes: p.b.nodes, still: still, keep: 1, now: 7001})
			p.join(op{nodes: p.b.which(at), keep: 1, way: 1, now: 7002})
			for p.players[0].all[0].snaps == nil {
				p.step(p.players[0])
			}
			for _, i := range []int{1, 0} {
				for !p.players[i].ended() {
					p.step(p.players[i])
					p.players[i].pair.hold(t)
				}
			}
			want := refused
			if still {
				want = seenChange
			}
			if got := p.players[0].all[0].came; got != want || p.players[1].all[0].came != stored {
				t.Errorf("P10.2: node %d changed: it came to %d, not %d", at, got, want)
			}
			for k, r := range p.b.nodes {
				ways := []ref.Ref{wayOf(k, 0), wayOf(k, 1)}
				if k == at {
					ways[1] = 7002
				}
				if got := waysNow(p.b.real, r); !slices.Equal(got, ways) {
					t.Errorf("P10.2: node %d changed: the ways of node %d are %v", at, k, got)
				}
			}
			p.end(t)
		}
	}
}

// TestOneBehindTheOther: somebody changes one of two nodes after the other one, while another one loads both, in the same order or not: if it finds them Still so, the pair stood there at one time. (Loads alone find pairs that never did.)
func TestOneBehindTheOther(t *testing.T) {
	for _, turned := range []bool{false, true} {
		saw := map[string]came{}
		n := everyOrder(t, func() *play {
			p := &play{b: newBoth(t, 20)}
			p.b.node(t, 1)
			p.b.node(t, 1)
			l := p.b.which(0, 1)
			if turned {
				l = p.b.which(1, 0)
			}
			p.join(op{nodes: l, still: true})
			p.join(op{nodes: p.b.which(0), keep: 1, now: 7001}, op{nodes: p.b.which(1), keep: 1, now: 7002})
			return p
		}, func(p *play) {
			d := p.players[0].all[0]
			if d.came == notLoaded {
				return
			}
			pair := fmt.Sprint(d.snaps[0].Ways, d.snaps[1].Ways)
			if turned {
				pair = fmt.Sprint(d.snaps[1].Ways, d.snaps[0].Ways)
			}
			if pair == "[1000] [7002]" && d.came == seenStill {
				t.Fatalf("P10.4: the pair %s never stood there", pair)
			}
			if had, ok := saw[pair]; !ok || had == seenChange {
				saw[pair] = d.came
			}
		})
		want := map[string]came{"[1000] [1100]": seenStill, "[7001] [1100]": seenStill, "[7001] [7002]": seenStill}
		if !turned {
			want["[1000] [7002]"] = seenChange
		}
		if fmt.Sprint(saw) != fmt.Sprint(want) || n < 500 {
			t.Errorf("P10.4: %d places; what was seen came to %v, not %v", n, saw, want)
		}
	}
}

// TestSlowHelper: one stands still in the midst of its Store, whose record is brought to its end by another's Load; then it goes on.
func TestSlowHelper(t *testing.T) {
	for stop := range 20 {
		p := &play{b: newBoth(t, 20)}
		p.b.node(t, 1)
		p.b.node(t, 0)
		p.join(op{nodes: p.b.nodes, keep: 1, now: 7001})
		p.join(op{nodes: p.b.which(0), keep: 1, now: 7002}, op{nodes: p.b.which(0), keep: 1, now: 7003}, op{nodes: p.b.which(0), keep: 1, now: 7004})
		for range stop {
			p.step(p.players[0])
		}
		for _, i := range []int{1, 0} {
			for !p.players[i].ended() {
				p.step(p.players[i])
				p.players[i].pair.hold(t)
				p.hold(t)
			}
		}
		p.end(t)
		first, second := p.players[0].all[0].came, p.players[1].all
		// Loads has 6 and 5 touches, the second one Info; Make one; from the first SwapInfo on others help.
		late, helped := stop < 2, stop > 12 && stop < 18
		if (first == stored) != (late || stop > 12) || (second[0].came == notLoaded) != helped || second[2].came != stored {
			t.Errorf("P10.2: it stood still behind %d touches, and came to %d; the other one to %d, %d, %d", stop, first, second[0].came, second[1].came, second[2].came)
		}
		if way := p.b.real.Arena.Way(p.b.nodes[0], 0); (way == 7001) != late || (way == 7004) == late {
			t.Errorf("P10.2: it stood still behind %d touches: the way is %d", stop, way)
		}
	}
}

// crowd lets many do operations of all kinds in an order of all kinds; some stand still for a long time, or for ever.
func crowd(t testing.TB, seed int64, came *[cames]int) {
	r := rand.New(rand.NewSource(seed))
	p := &play{b: newBoth(t, 200)}
	for range 2 + r.Intn(4) {
		p.b.node(t, 1+r.Intn(3))
	}
	next := ref.Ref(7000)
	for range 2 + r.Intn(5) {
		var l []op
		for range 1 + r.Intn(6) {
			o := op{still: r.Intn(2) == 0, now: next, nodes: p.b.which(r.Perm(len(p.b.nodes))[:1+r.Intn(len(p.b.nodes))]...)}
			o.way = r.Intn(len(p.b.real.Arena.Look(o.nodes[0]).Ways.Ways))
			if o.keep = len(o.nodes); r.Intn(6) == 0 {
				o.keep = r.Intn(len(o.nodes))
			}
			next++
			l = append(l, o)
		}
		p.join(l...)
	}
	last := len(p.players) - int(bit(r.Intn(3) == 0))
	for open := p.open(); len(open) > 0 && open[0] < last; open = p.open() {
		i := open[r.Intn(1+r.Intn(len(open)))]
		for range 1 + r.Intn(1+r.Intn(30)) {
			p.step(p.players[i])
			p.players[i].pair.hold(t)
		}
		p.hold(t)
	}
	if len(p.open()) == 0 {
		p.end(t)
	}
	for _, q := range p.players {
		for _, d := range q.all {
			came[d.came]++
		}
	}
}

// TestCrowd: orders of many, of which there are too many for all of them.
func TestCrowd(t *testing.T) {
	var came [cames]int
	for seed := range int64(300) {
		crowd(t, seed, &came)
	}
	for _, n := range came[notLoaded:] {
		if n < 50 {
			t.Errorf("P10.4: %v operations came to each end: too few", came)
		}
	}
}
