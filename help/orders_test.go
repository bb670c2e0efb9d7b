package help

import (
	"fmt"
	"math/rand"
	"testing"

	"boscage/arena"
	"boscage/record"
	"boscage/ref"
	"boscage/world"
)

// watch holds what becomes of records against P9.2, touch by touch. Each record's New is its own, so that a way tells who changed it.
type watch struct {
	b       *both
	records []record.Record // record n is at n - 1
	before  []nodeState
	states  []record.State
	swaps   []int // how often each record changed its way
	answers []answers
}

type answers struct{ yes, no int }

func newWatch(b *both) *watch {
	w := &watch{b: b}
	w.news()
	return w
}

// news: nodes and records that were made since.
func (w *watch) news() {
	for _, r := range w.b.nodes[len(w.before):] {
		w.before = append(w.before, stateOf(w.b.real, r))
	}
	for i := len(w.records); i < w.b.real.Records.Len(); i++ {
		w.records = append(w.records, w.b.real.Records.Look(int64(i)+1))
		w.states = append(w.states, w.b.real.Records.State(int64(i)+1))
		w.swaps = append(w.swaps, 0)
		w.answers = append(w.answers, answers{})
	}
}

// step goes on with a helper, and looks what became of it.
func (w *watch) step(t testing.TB, p *pair) {
	t.Helper()
	p.step(t)
	if p.ended() {
		a := &w.answers[p.n-1]
		if p.twin.out {
			a.yes++
		} else {
			a.no++
		}
		if a.yes > 0 && a.no > 0 {
			t.Fatalf("P9.2: of record %d one answers true, another false", p.n)
		}
	}
	for i := range w.records {
		w.state(t, i)
	}
	for k, r := range w.b.nodes {
		now := stateOf(w.b.real, r)
		for i := range ways {
			if now.ways[i] != w.before[k].ways[i] {
				w.swap(t, r, i, w.before[k].ways[i], now.ways[i])
			}
		}
		w.before[k] = now
	}
}

// state: one that came to its end stays what it came to.
func (w *watch) state(t testing.TB, i int) {
	t.Helper()
	was, now := w.states[i], w.b.real.Records.State(int64(i)+1)
	if was != now && was != record.Going {
		t.Fatalf("P9.2: record %d was %d, and is %d", i+1, was, now)
	}
	if now == record.Aborted && w.b.real.Records.All(int64(i)+1) {
		t.Fatalf("P9.2: record %d is aborted, though all nodes were its own", i+1)
	}
	if now == record.Done && len(w.records[i].Nodes) > 0 && w.swaps[i] != 1 && was == record.Done {
		t.Fatalf("P9.2: record %d is done, its way changed %d times", i+1, w.swaps[i])
	}
	w.states[i] = now
}

// swap: a way was changed; that is a going record's, at the first time.
func (w *watch) swap(t testing.TB, node ref.Ref, way int, old, now ref.Ref) {
	t.Helper()
	for i, r := range w.records {
		if r.New != now {
			continue
		}
		if w.swaps[i]++; w.swaps[i] > 1 || r.Nodes[0] != node || r.Way != way || r.Old != old || w.states[i] != record.Going {
			t.Fatalf("P9.2: record %d changed way %d of node %d from %d to %d, for the %d. time", i+1, way, node, old, now, w.swaps[i])
		}
		return
	}
	t.Fatalf("P9.2: a way is %d, that is no record's", now)
}

// end: all helpers are at their end; what each record came to is what they told, and its marks are as that.
func (w *watch) end(t testing.TB) {
	t.Helper()
	marks := map[ref.Ref]bool{}
	for i, r := range w.records {
		a, done := w.answers[i], w.states[i] == record.Done
		if a.yes > 0 && !done || a.no > 0 && w.states[i] != record.Aborted {
			t.Fatalf("P9.2: record %d is %d, though %d answered true, %d false", i+1, w.states[i], a.yes, a.no)
		}
		if len(r.Nodes) > 0 && w.swaps[i] != int(bit(done)) {
			t.Fatalf("P9.2: record %d is %d, its way changed %d times", i+1, w.states[i], w.swaps[i])
		}
		for j, node := range r.Nodes {
			if done && j >= r.Keep {
				marks[node] = true
			}
		}
	}
	for k, r := range w.b.nodes {
		if w.before[k].mark != marks[r] {
			t.Fatalf("P9.2: node %d: marked is %t, not %t", k, w.before[k].mark, marks[r])
		}
	}
}

// everyOrder goes through every order in which helpers may go on, from one Step on to all ends: how many there are. Each order begins anew by what set makes.
func everyOrder(t testing.TB, set func() (*watch, []*pair), end func(*watch, []*pair)) int {
	t.Helper()
	var order, among []int // each turn: which of those that aren't at their end goes on, and among how many
	for count := 1; ; count++ {
		w, work := set()
		for n := 0; ; n++ {
			open := notEnded(work)
			if len(open) == 0 {
				break
			}
			if n == len(order) {
				order, among = append(order, 0), append(among, len(open))
			}
			w.step(t, open[order[n]])
		}
		w.end(t)
		end(w, work)
		for len(order) > 0 && order[len(order)-1]+1 == among[len(order)-1] {
			order, among = order[:len(order)-1], among[:len(order)-1]
		}
		if len(order) == 0 {
			return count
		}
		order[len(order)-1]++
	}
}

func notEnded(work []*pair) []*pair {
	var out []*pair
	for _, p := range work {
		if !p.ended() {
			out = append(out, p)
		}
	}
	return out
}

// TestEveryOrderOfOneRecordsHelpers: both answer true, whoever is faster.
func TestEveryOrderOfOneRecordsHelpers(t *testing.T) {
	for _, c := range []struct{ nodes, keep, orders int }{
		{0, 0, 6}, {1, 0, 400}, {1, 1, 100}, {2, 0, 9000}, {2, 1, 2000}, {2, 2, 600}, {3, 3, 3000},
	} {
		count := everyOrder(t, func() (*watch, []*pair) {
			b := newBoth(t, c.nodes)
			n := b.make(t, b.plain(c.keep, []int{0, 1, 2}[:c.nodes]...))
			return newWatch(b), []*pair{b.help(n), b.help(n)}
		}, func(w *watch, work []*pair) {
			if w.answers[0] != (answers{yes: 2}) || w.states[0] != record.Done {
				t.Fatalf("P9.2: %v: %v answered, the record is %d", c, w.answers[0], w.states[0])
			}
		})
		if count < c.orders {
			t.Errorf("P9.2: %v: %d orders only", c, count)
		}
	}
}

// TestEveryOrderOfHelpersThatAbort: a node is another record's from the beginning on.
func TestEveryOrderOfHelpersThatAbort(t *testing.T) {
	for at := range 3 {
		everyOrder(t, func() (*watch, []*pair) {
			b := newBoth(t, 3)
			other := b.make(t, record.Record{Nodes: []ref.Ref{b.nodes[at]}, Infos: []int64{0}, Keep: 1, Old: wayOf(at, 0), New: 7001})
			n := b.make(t, b.plain(1, 0, 1, 2))
			b.help(other).run(t)
			w := newWatch(b)
			w.swaps[0] = 1
			return w, []*pair{b.help(n), b.help(n)}
		}, func(w *watch, work []*pair) {
			if w.answers[1] != (answers{no: 2}) || w.states[1] != record.Aborted {
				t.Fatalf("P9.2: node %d is another's: %v answered, the record is %d", at, w.answers[1], w.states[1])
			}
		})
	}
}

// rival is a second record, beside b.plain's, whose way is another one.
func (b *both) rival(keep int, which ...int) record.Record {
	r := b.plain(keep, which...)
	r.Way, r.New = 2, 7002
	r.Old = wayOf(which[0], 2)
	return r
}

// twoRecords are made at the same time, with nodes in common or none; which of neither, both may be, beside one of them alone.
type twoRecords struct {
	keep1, keep2  int
	first, second []int
	both, neither bool
}

func someTwoRecords() []twoRecords {
	return []twoRecords{
		{keep1: 1, keep2: 1, first: []int{0}, second: []int{0}},
		{keep1: 1, keep2: 2, first: []int{0, 1}, second: []int{0, 2}},
		{keep1: 1, keep2: 1, first: []int{0, 1}, second: []int{1}},
		{keep1: 2, keep2: 1, first: []int{0, 1}, second: []int{2, 1}},
		{keep1: 1, keep2: 1, first: []int{0, 1, 2}, second: []int{1, 3}},
		{keep1: 0, keep2: 3, first: []int{0, 1, 2}, second: []int{3, 1, 2}},
		{keep1: 1, keep2: 1, first: []int{0, 1}, second: []int{1, 0}, neither: true},
		{keep1: 1, keep2: 1, first: []int{0, 1}, second: []int{2, 3}, both: true},
	}
}

// set makes both, with so many helpers each.
func (c twoRecords) set(t testing.TB, helpers1, helpers2 int) (*watch, []*pair) {
	b := newBoth(t, 4)
	n, m := b.make(t, b.plain(c.keep1, c.first...)), b.make(t, b.rival(c.keep2, c.second...))
	var work []*pair
	for range helpers1 {
		work = append(work, b.help(n))
	}
	for range helpers2 {
		work = append(work, b.help(m))
	}
	return newWatch(b), work
}

// seen counts what both came to: neither, the first alone, the second alone, both were done.
type seen [4]int

func (s *seen) count(w *watch) {
	s[bit(w.states[0] == record.Done)+2*bit(w.states[1] == record.Done)]++
}

// hold: each that may be was seen, and no other.
func (s seen) hold(t testing.TB, c twoRecords) {
	t.Helper()
	if (s[0] > 0) != c.neither || (s[1] > 0) == c.both || (s[2] > 0) == c.both || (s[3] > 0) != c.both {
		t.Errorf("P9.2: %v: neither, the first, the second, both were done in %v orders", c, s)
	}
}

// TestEveryOrderOfTwoRecords: each has one helper.
func TestEveryOrderOfTwoRecords(t *testing.T) {
	for _, c := range someTwoRecords() {
		var s seen
		count := everyOrder(t, func() (*watch, []*pair) { return c.set(t, 1, 1) }, func(w *watch, work []*pair) { s.count(w) })
		if s.hold(t, c); count < 70 {
			t.Errorf("P9.2: %v: %d orders only", c, count)
		}
	}
}

// TestOrdersOfMoreHelpers: of two records with several helpers each, of which there are too many orders for all of them.
func TestOrdersOfMoreHelpers(t *testing.T) {
	r := rand.New(rand.NewSource(9))
	for _, c := range someTwoRecords() {
		for helpers := 2; helpers <= 4; helpers++ {
			var s seen
			for range 500 {
				w, work := c.set(t, helpers, 1+r.Intn(helpers))
				for open := work; len(open) > 0; open = notEnded(work) {
					w.step(t, open[r.Intn(len(open))])
				}
				w.end(t)
				s.count(w)
			}
			s.hold(t, c)
		}
	}
}

// TestEveryOrderOfALateHelper: a record is made of what another one came to, while one of that one's helpers still is where it was.
func TestEveryOrderOfALateHelper(t *testing.T) {
	for late := range 5 {
		everyOrder(t, func() (*watch, []*pair) {
			b := newBoth(t, 2)
			n := b.make(t, b.plain(1, 0, 1))
			slow := b.help(n)
			for range late {
				slow.step(t)
			}
			b.help(n).run(t)
			// What the second takes is as the first left it.
			m := b.make(t, record.Record{Nodes: []ref.Ref{b.nodes[0]}, Infos: []int64{n}, Keep: 1, Way: 1, Old: 7000, New: 7003})
			w := newWatch(b)
			w.swaps[0] = 1
			return w, []*pair{slow, b.help(m)}
		}, func(w *watch, work []*pair) {
			if w.answers[0] != (answers{yes: 1}) || w.answers[1] != (answers{yes: 1}) {
				t.Fatalf("P9.2: %v, %v answered", w.answers[0], w.answers[1])
			}
		})
	}
}

// changes are what others may do between two touches of a record n, whose nodes b.nodes has from 0 on.
func changes(b *both, n int64) []func(w *world.World) {
	out := []func(w *world.World){
		func(w *world.World) {},
		func(w *world.World) { w.Records.SetAll(n) },
		func(w *world.World) { w.Records.Set(n, record.Done) },
		func(w *world.World) { w.Records.Set(n, record.Aborted) },
		func(w *world.World) { w.Records.Make(record.Record{Keep: 3}) },
		func(w *world.World) { w.Records.SetAll(n); w.Arena.SwapInfo(b.nodes[1], w.Arena.Info(b.nodes[1]), 55) },
	}
	for _, node := range b.nodes {
		for _, info := range []int64{0, 1, n, 55} {
			out = append(out, func(w *world.World) { w.Arena.SwapInfo(node, w.Arena.Info(node), info) })
		}
		for i := range ways {
			out = append(out, func(w *world.World) { w.Arena.SwapWay(node, i, w.Arena.Way(node, i), 99) })
		}
		out = append(out, func(w *world.World) { w.Arena.SetMark(node) })
		out = append(out, func(w *world.World) { w.Arena.Free(node) })
		out = append(out, func(w *world.World) { w.Arena.Free(node); w.Arena.Alloc(arena.Node{Inner: true}) })
	}
	return out
}

// TestWithOthersBetween: whatever others do ahead of any two touches of it, Record does what the chapter says, touch by touch.
func TestWithOthersBetween(t *testing.T) {
	start := func() (*both, int64) {
		b := newBoth(t, 3)
		b.make(t, record.Record{})
		return b, b.make(t, b.plain(1, 0, 1, 2))
	}
	b, n := start()
	count := len(changes(b, n))
	for i := range count * count {
		for at := range 9 {
			for _, later := range []int{0, 1, 2} {
				b, n := start()
				l := changes(b, n)
				p := b.help(n)
				for k := 0; !p.ended(); k++ {
					if k == at {
						b.do(l[i%count])
					}
					if k == at+later {
						b.do(l[i/count])
					}
					p.stepUnseen(t)
				}
				b.same(t)
			}
		}
	}
}

// snap is a node as it was at one time, when no record was going at it.
type snap struct {
	node ref.Ref
	now  nodeState
}

// crowd is records that are made as chapter 10's Store makes them: of snaps that may be old by then.
type crowd struct {
	b     *both
	w     *watch
	r     *rand.Rand
	snaps []snap
	work  []*pair
	next  ref.Ref
}

func (c *crowd) snap() {
	node := c.b.nodes[c.r.Intn(len(c.b.nodes))]
	now := stateOf(c.b.real, node)
	state := c.b.real.Records.State(now.info)
	if state == record.Aborted || state == record.Done && !now.mark {
		c.snaps = append(c.snaps, snap{node, now})
	}
}

// store makes a record of some of the snaps, the newest rather than others.
func (c *crowd) store(t *testing.T) {
	r := record.Record{Way: c.r.Intn(ways), New: c.next}
	size := 1 + c.r.Intn(4)
	taken := map[ref.Ref]bool{}
	for i := len(c.snaps) - 1; i >= 0 && len(r.Nodes) < size; i-- {
		s := c.snaps[i]
		if taken[s.node] || c.r.Intn(3) == 0 {
			continue
		}
		if taken[s.node] = true; len(r.Nodes) == 0 {
			r.Old = s.now.ways[r.Way]
		}
		r.Nodes, r.Infos = append(r.Nodes, s.node), append(r.Infos, s.now.info)
	}
	if len(r.Nodes) == 0 {
		return
	}
	c.next++
	r.Keep = c.r.Intn(len(r.Nodes) + 2)
	c.work = append(c.work, c.b.help(c.b.make(t, r)))
	c.w.news()
}

// TestCrowd: many records, and many helpers of each, in orders of all kinds; some helpers stand still for a long time.
func TestCrowd(t *testing.T) {
	var done, aborted int
	for seed := range int64(400) {
		b := newBoth(t, 5)
		c := &crowd{b: b, w: newWatch(b), r: rand.New(rand.NewSource(seed)), next: 7000}
		for range 600 {
			switch k := c.r.Intn(100); {
			case k < 15:
				c.snap()
			case k < 20 && b.real.Records.Len() < 60:
				c.store(t)
			case k < 25 && b.real.Records.Len() > 0:
				c.work = append(c.work, b.help(1+int64(c.r.Intn(b.real.Records.Len()))))
			case k < 27 && len(b.nodes) < 15:
				b.node(t)
				c.w.news()
			case len(c.work) > 0:
				c.goOn(t)
			}
		}
		for len(c.work) > 0 {
			c.goOn(t)
		}
		c.w.end(t)
		for _, s := range c.w.states {
			done += int(bit(s == record.Done))
			aborted += int(bit(s == record.Aborted))
		}
	}
	if done < 2000 || aborted < 2000 {
		t.Errorf("P9.2: %d records were done, %d aborted: too few", done, aborted)
	}
}

// goOn is a Step of one of the last helpers mostly, so that the first ones are slow.
func (c *crowd) goOn(t *testing.T) {
	i := len(c.work) - 1 - c.r.Intn(1+c.r.Intn(len(c.work)))
	if c.w.step(t, c.work[i]); c.work[i].ended() {
		c.work = append(c.work[:i], c.work[i+1:]...)
	}
}

// TestNodesOfARecordTwice: a node that stands in a record twice is its own already when it comes again.
func TestNodesOfARecordTwice(t *testing.T) {
	for keep := range 4 {
		b := newBoth(t, 2)
		n := b.make(t, b.plain(keep, 0, 1, 0))
		if out, touches := b.help(n).run(t); !out || touches != 4+1+max(0, 3-keep)+2 {
			t.Errorf("P9.1: %s: %t behind %d touches", fmt.Sprint("Keep ", keep), out, touches)
		}
	}
}
