package llx

import (
	"math"
	"slices"
	"testing"

	"boscage/arena"
	"boscage/inner"
	"boscage/leaf"
	"boscage/record"
	"boscage/ref"
	"boscage/thread"
	"boscage/world"
)

// some is a world with nodes of 2, 0, 3, 1 ways.
func some(t *testing.T, records int) *both {
	b := newBoth(t, records)
	for _, ways := range []int{2, 0, 3, 1} {
		b.node(t, ways)
	}
	return b
}

// TestLoads: of no node, of one, of several, of the same again.
func TestLoads(t *testing.T) {
	for _, which := range [][]int{{}, {0}, {1}, {0, 1}, {1, 0}, {3, 2, 1, 0}, {2, 2}, {0, 1, 0, 3, 0}} {
		b := some(t, 20)
		withRecord(2, 99, 0)(t, b)
		var l []ref.Ref
		touches := 0
		for _, k := range which {
			l = append(l, b.nodes[k])
			touches += 5 + []int{2, 0, 3, 1}[k]
		}
		all := dump(b.real, b.nodes)
		if out, n := b.run(t, loadsJob(l...)); out != tell(b.snapsOf(l...), true) || n != touches {
			t.Errorf("P10.2: Loads of %v: %s behind %d touches, not %s behind %d", which, out, n, tell(b.snapsOf(l...), true), touches)
		}
		if dump(b.real, b.nodes) != all {
			t.Errorf("P10.2: Loads of %v: something changed", which)
		}
		b.noFaults(t)
	}
}

// TestLoadsUpToOne: the first that isn't Seen, at whichever place, is the last that is touched. (One behind it isn't right, and would be a fault.)
func TestLoadsUpToOne(t *testing.T) {
	for _, c := range stands() {
		if c.status == Seen {
			continue
		}
		for ahead := range 4 {
			b := some(t, 20)
			r := c.set(t, b)
			var l []ref.Ref
			touches := c.touches
			for i := range ahead {
				l = append(l, b.nodes[2+i%2])
				touches += 5 + 3 - 2*(i%2)
			}
			l = append(l, r, 0, b.nodes[3])
			if out, n := b.run(t, loadsJob(l...)); out != tell([]Snap(nil), false) || n != touches {
				t.Errorf("P10.2: Loads, node %d is %s: %s behind %d touches, not none behind %d", ahead, c.name, out, n, touches)
			}
			b.noFaults(t)
		}
	}
}

// TestLoadsOfGoing: a node behind the first that isn't Seen has its record going still.
func TestLoadsOfGoing(t *testing.T) {
	b := some(t, 20)
	for k := range 2 {
		n := b.make(t, record.Record{Nodes: b.nodes[k : k+1], Infos: []int64{0}, Keep: 1})
		b.do(func(w *world.World) { w.Arena.SwapInfo(b.nodes[k], 0, n) })
	}
	// Mark, Info, State, Mark, State; SwapInfo, Info, SetAll, SwapWay, Set; Info, State.
	if out, n := b.run(t, loadsJob(b.nodes[3], b.nodes[0], b.nodes[1])); out != tell([]Snap(nil), false) || n != 6+12 {
		t.Errorf("P10.2: %s behind %d touches", out, n)
	}
	if b.real.Records.State(1) != record.Done || b.real.Records.State(2) != record.Going {
		t.Errorf("P10.2: the records are %d, %d", b.real.Records.State(1), b.real.Records.State(2))
	}
}

// TestStore: one that is done, with keep at its bounds and beyond.
func TestStore(t *testing.T) {
	for size := range 5 {
		for _, keep := range []int{0, 1, 2, 3, 4, 5, math.MaxInt64} {
			b := some(t, 20)
			l := b.snapsOf([]ref.Ref{b.nodes[2], b.nodes[1], b.nodes[3], b.nodes[0]}[:size]...)
			touches := 1 + size + 1 + max(0, size-keep) + int(bit(size > 0)) + 1
			if out, n := b.run(t, storeJob(l, keep, 1, wayOf(2, 1), 7000)); out != tell(true, false) || n != touches {
				t.Errorf("P10.2: Store of %d, keep %d: %s behind %d touches, not done behind %d", size, keep, out, n, touches)
			}
			for k, r := range b.nodes {
				i := slices.IndexFunc(l, func(s Snap) bool { return s.Ref == r })
				ways := b.real.Arena.Look(r).Ways.Ways
				if i == 0 {
					ways[1] = 7000
				}
				if b.real.Arena.Mark(r) != (i >= keep) || b.real.Arena.Info(r) != bit(i >= 0) || !slices.Equal(waysNow(b.real, r), ways) {
					t.Errorf("P10.2: Store of %d, keep %d: node %d is %v", size, keep, k, nowOf(b.real, r))
				}
			}
			if b.real.Records.Len() != 1 || b.real.Records.State(1) != record.Done || !b.real.Records.All(1) {
				t.Errorf("P10.2: Store of %d, keep %d: %d records, the first is %d", size, keep, b.real.Records.Len(), b.real.Records.State(1))
			}
			b.noFaults(t)
		}
	}
}

// TestStoreRecord: the record is as told, whatever it comes to.
func TestStoreRecord(t *testing.T) {
	b := some(t, 20)
	for _, way := range []int{0, 1, 2, 3, -1, 1 << 32, math.MinInt64, math.MaxInt64} {
		for _, old := range []ref.Ref{wayOf(2, 0), wayOf(2, 1), 0, 7000, -5, math.MaxInt64} {
			for _, keep := range []int{2, 3, math.MaxInt64} {
				was := waysNow(b.real, b.nodes[2])
				b = some(t, 20)
				l := b.snapsOf(b.nodes[2], b.nodes[0])
				if out, n := b.run(t, storeJob(l, keep, way, old, 7000)); out != tell(true, false) || n != 6 {
					t.Errorf("P10.2: Store of way %d from %d: %s behind %d touches", way, old, out, n)
				}
				want := record.Record{Nodes: []ref.Ref{b.nodes[2], b.nodes[0]}, Infos: []int64{0, 0}, Keep: keep, Way: way, Old: old, New: 7000}
				if got := b.real.Records.Look(1); tell(got) != tell(want) {
					t.Errorf("P10.2: the record is %v, not %v", got, want)
				}
				// A way that isn't there, or isn't old, stays as it is.
				was = []ref.Ref{wayOf(2, 0), wayOf(2, 1), wayOf(2, 2)}
				if 0 <= way && way < 3 && was[way] == old {
					was[way] = 7000
				}
				if got := waysNow(b.real, b.nodes[2]); !slices.Equal(got, was) {
					t.Errorf("P10.2: Store of way %d from %d: the ways are %v, not %v", way, old, got, was)
				}
			}
		}
	}
}

// TestStoreInfos: the nodes' records, as they were seen, stand in the record; ones that are other ones by now are not stored over.
func TestStoreInfos(t *testing.T) {
	for at := range 3 {
		b := some(t, 20)
		withRecord(2, 99, 0)(t, b)
		l := b.snapsOf(b.nodes[0], b.nodes[1], b.nodes[2])
		if l[0].Info != 1 || l[1].Info != 1 || l[2].Info != 0 {
			t.Fatalf("P9.1: %v", l)
		}
		if out, _ := b.run(t, storeJob(l[at:at+1], 1, 1, 0, 0)); out != tell(true, false) {
			t.Errorf("P10.2: Store of one node: %s", out)
		}
		was := waysNow(b.real, b.nodes[0])
		// Make; SwapInfo of those ahead; SwapInfo, Info, All, Set.
		if out, n := b.run(t, storeJob(l, 1, 1, wayOf(0, 1), 7000)); out != tell(false, false) || n != 1+at+4 {
			t.Errorf("P10.2: node %d isn't as it was: %s behind %d touches", at, out, n)
		}
		if got := b.real.Records.Look(3); !slices.Equal(got.Infos, []int64{1, 1, 0}) || b.real.Records.State(3) != record.Aborted {
			t.Errorf("P10.2: the record is %v", got)
		}
		for k := range 3 {
			if b.real.Arena.Mark(b.nodes[k]) || !slices.Equal(waysNow(b.real, b.nodes[0]), was) {
				t.Errorf("P10.2: node %d isn't as it was: node %d is %v", at, k, nowOf(b.real, b.nodes[k]))
			}
		}
		b.noFaults(t)
	}
}

// TestStoreWithoutRecord: none is made where there are as many as may be, or keep is below 0: one touch, and nothing is changed.
func TestStoreWithoutRecord(t *testing.T) {
	for _, c := range []struct{ records, had, keep int }{{0, 0, 1}, {1, 1, 1}, {3, 3, 0}, {3, 3, -1}, {3, 0, -1}, {3, 2, math.MinInt64}} {
		for size := range 4 {
			b := some(t, c.records)
			for range c.had {
				b.make(t, record.Record{})
			}
			l := b.snapsOf(b.nodes[:size]...)
			all := dump(b.real, b.nodes)
			if out, n := b.run(t, storeJob(l, c.keep, 0, wayOf(0, 0), 7000)); out != tell(false, true) || n != 1 {
				t.Errorf("P10.2: Store of %d, %v: %s behind %d touches, not none behind 1", size, c, out, n)
			}
			if dump(b.real, b.nodes) != all {
				t.Errorf("P10.2: Store of %d, %v: something changed", size, c)
			}
			b.noFaults(t)
		}
	}
	// The last record that may be is made.
	b := some(t, 3)
	b.make(t, record.Record{})
	b.make(t, record.Record{})
	if out, n := b.run(t, storeJob(b.snapsOf(b.nodes[0]), 1, 0, wayOf(0, 0), 7000)); out != tell(true, false) || n != 5 || b.real.Arena.Way(b.nodes[0], 0) != 7000 {
		t.Errorf("P10.2: Store with the last record: %s behind %d touches", out, n)
	}
	if out, n := b.run(t, storeJob(b.snapsOf(b.nodes[0]), 1, 0, 7000, 7001)); out != tell(false, true) || n != 1 || b.real.Arena.Way(b.nodes[0], 0) != 7000 {
		t.Errorf("P10.2: Store without one: %s behind %d touches", out, n)
	}
}

// TestStoreTwice: a node in two snaps is its own already when it comes again; a node that went isn't stored over.
func TestStoreTwice(t *testing.T) {
	b := some(t, 20)
	l := b.snapsOf(b.nodes[0], b.nodes[1], b.nodes[0])
	if out, n := b.run(t, storeJob(l, 1, 0, wayOf(0, 0), 7000)); out != tell(true, false) || n != 1+4+1+2+2 {
		t.Errorf("P10.2: %s behind %d touches", out, n)
	}
	if out, _ := b.run(t, storeJob(l, 1, 1, wayOf(0, 1), 7001)); out != tell(false, false) || b.real.Arena.Way(b.nodes[0], 1) != wayOf(0, 1) {
		t.Errorf("P10.2: stored over one that went: %s", out)
	}
}

// TestStill: of none, of one, of several, one at each place not as it was; no node behind that is touched, and nothing is changed.
func TestStill(t *testing.T) {
	for size := range 5 {
		for at := -1; at < size; at++ {
			b := some(t, 20)
			withRecord(2, 99, 0)(t, b)
			l := b.snapsOf(b.nodes[:size]...)
			want, touches := at < 0, size
			if at >= 0 {
				// Only its record tells that it isn't as it was.
				b.do(func(w *world.World) { w.Arena.SwapInfo(b.nodes[at], l[at].Info, 9) })
				l = append(l, Snap{Ref: 0}, Snap{Ref: 5})
				touches = at + 1
			}
			all := dump(b.real, b.nodes)
			if out, n := b.run(t, stillJob(l)); out != tell(want) || n != touches {
				t.Errorf("P10.2: Still of %d, node %d not as it was: %s behind %d touches, not %t behind %d", size, at, out, n, want, touches)
			}
			if dump(b.real, b.nodes) != all {
				t.Errorf("P10.2: Still of %d, node %d not as it was: something changed", size, at)
			}
			b.noFaults(t)
		}
	}
}

// TestStillByInfo: it hangs on the record alone, whatever the mark, the record's state and the ways are.
func TestStillByInfo(t *testing.T) {
	for _, info := range []int64{0, 1, 9, -1, math.MinInt64, math.MaxInt64, 1<<32 + 1} {
		for _, told := range []int64{0, 1, 9, -1, math.MinInt64, math.MaxInt64, 1<<32 + 1} {
			for s := range record.States {
				b := some(t, 20)
				n := b.make(t, record.Record{Nodes: b.nodes[:1], Infos: []int64{0}, Keep: 1})
				b.do(func(w *world.World) {
					w.Records.Set(n, s)
					w.Arena.SwapInfo(b.nodes[0], 0, info)
					w.Arena.SwapWay(b.nodes[0], 0, wayOf(0, 0), 7000)
					w.Arena.SetMark(b.nodes[0])
				})
				if out, n := b.run(t, stillJob([]Snap{{Ref: b.nodes[0], Info: told}})); out != tell(info == told) || n != 1 {
					t.Errorf("P10.2: record %d, Still as with %d: %s behind %d touches", info, told, out, n)
				}
			}
		}
	}
}

// TestInner tells the keys, with the ways then.
func TestInner(t *testing.T) {
	for _, c := range []struct {
		s    Snap
		want inner.Inner
		size int
	}{
		{Snap{}, inner.Inner{}, 0},
		{Snap{Ref: 9, Info: 8}, inner.Inner{}, 0},
		{Snap{Node: arena.Node{Pairs: leaf.Leaf{{Key: 1}, {Key: 2}}}}, inner.Inner{}, 2},
		{Snap{Node: arena.Node{Inner: true, Ways: inner.Inner{Ways: []ref.Ref{5}}}, Ways: []ref.Ref{6}}, inner.Inner{Ways: []ref.Ref{6}}, 1},
		{Snap{Node: arena.Node{Inner: true, Ways: inner.Inner{Keys: []int64{3, 5}, Ways: []ref.Ref{5, 6, 7}}}, Ways: []ref.Ref{5, 8, 7}}, inner.Inner{Keys: []int64{3, 5}, Ways: []ref.Ref{5, 8, 7}}, 3},
		// Snaps that no Load tells.
		{Snap{Node: arena.Node{Inner: true, Pairs: leaf.Leaf{{Key: 1}}, Ways: inner.Inner{Keys: []int64{3}, Ways: []ref.Ref{5, 6}}}}, inner.Inner{Keys: []int64{3}}, 0},
		{Snap{Node: arena.Node{Pairs: leaf.Leaf{{Key: 1}}, Ways: inner.Inner{Keys: []int64{3}}}, Ways: []ref.Ref{1, 2}}, inner.Inner{Keys: []int64{3}, Ways: []ref.Ref{1, 2}}, 1},
	} {
		if got := c.s.Inner(); !slices.Equal(got.Keys, c.want.Keys) || !slices.Equal(got.Ways, c.want.Ways) {
			t.Errorf("P10.3: Inner of %+v is %v, not %v", c.s, got, c.want)
		}
		if got := c.s.Size(); got != c.size {
			t.Errorf("P10.3: Size of %+v is %d, not %d", c.s, got, c.size)
		}
	}
}

func TestGoes(t *testing.T) {
	s := Snap{Ref: 3, Node: arena.Node{Inner: true, Ways: inner.Inner{Keys: []int64{1, 2}, Ways: []ref.Ref{4, 5, 6}}}, Ways: []ref.Ref{7, 5, 0}}
	for _, way := range []int{0, 1, 2, 3, 4, -1, -2, 1 << 32, math.MinInt64, math.MaxInt64} {
		for _, r := range []ref.Ref{0, 3, 4, 5, 6, 7, -1, math.MaxInt64} {
			want := way == 0 && r == 7 || way == 1 && r == 5 || way == 2 && r == 0
			if got := s.Goes(way, r); got != want {
				t.Errorf("P10.3: Goes(%d, %d) of %v is %t", way, r, s.Ways, got)
			}
			for _, none := range []Snap{{}, {Node: arena.Node{Pairs: leaf.Leaf{{Key: 7}}}}, {Node: s.Node}} {
				if none.Goes(way, r) {
					t.Errorf("P10.3: Goes(%d, %d) of no ways", way, r)
				}
			}
		}
	}
}

// TestWithoutATouch: what a snap tells is as it was, whatever stands there now, and outside of work, too.
func TestWithoutATouch(t *testing.T) {
	b := some(t, 20)
	var l []Snap
	var inside string
	told := func() string {
		return tell(l[0].Inner(), l[0].Size(), l[0].Goes(1, wayOf(0, 1)), l[0].Goes(1, 7000), l[1].Inner(), l[1].Size(), l[1].Goes(0, 0))
	}
	n := alone(t, b.real, func(t world.Task) {
		l, _ = Loads(t, b.nodes[0], b.nodes[1])
		inside = told()
	})
	want := tell(inner.Inner{Keys: []int64{1}, Ways: []ref.Ref{1000, 1001}}, 2, true, false, inner.Inner{}, 2, false)
	if inside != want || n != 7+5 {
		t.Errorf("P10.3: %s behind %d touches, not %s", inside, n, want)
	}
	b.real.Arena.SwapWay(b.nodes[0], 1, wayOf(0, 1), 7000)
	b.real.Arena.Free(b.nodes[1])
	if now := told(); now != want || b.real.Arena.Faults() != 0 {
		t.Errorf("P10.3: %s then, with %d faults", now, b.real.Arena.Faults())
	}
}

// TestNewMemory: answers share no memory with one another, nor with what is kept.
func TestNewMemory(t *testing.T) {
	b := some(t, 20)
	var l, more []Snap
	alone(t, b.real, func(t world.Task) { l, _ = Loads(t, b.nodes[0], b.nodes[0], b.nodes[1], b.nodes[1]) })
	want := tell(l)
	in := l[0].Inner()
	in.Keys[0], in.Ways[0] = 99, 99
	in.Keys, in.Ways = append(in.Keys, 98), append(in.Ways, 98)
	if tell(l) != want {
		t.Errorf("P2, R6: Inner shares memory: %v", l)
	}
	second := tell(l[1], l[3])
	for _, s := range []Snap{l[0], l[2]} {
		for i := range s.Ways {
			s.Ways[i], s.Node.Ways.Ways[i] = 97, 96
		}
		for i := range s.Node.Ways.Keys {
			s.Node.Ways.Keys[i] = 95
		}
		for i := range s.Node.Pairs {
			s.Node.Pairs[i] = leaf.Pair{}
		}
	}
	if tell(l[1], l[3]) != second {
		t.Errorf("P2, R6: two snaps share memory: %v", l)
	}
	alone(t, b.real, func(t world.Task) { more, _ = Loads(t, b.nodes[0], b.nodes[0], b.nodes[1], b.nodes[1]) })
	if tell(more) != want {
		t.Errorf("P2, R6: a snap shares memory with the world: %v", more)
	}
}

// TestHandedInStays: nothing that is handed in is changed or kept, spare room included.
func TestHandedInStays(t *testing.T) {
	b := some(t, 20)
	refs := append(make([]ref.Ref, 0, 9), b.nodes[0], b.nodes[2])
	spare := refs[:9]
	snaps := append(make([]Snap, 0, 9), b.snapsOf(refs...)...)
	for i := 2; i < 9; i++ {
		spare[i] = -7
		snaps[:9][i] = Snap{Ref: -7}
	}
	wantRefs, wantSnaps := tell(spare), tell(snaps[:9])
	alone(t, b.real, func(k world.Task) {
		Loads(k, refs...)
		if !Still(k, snaps) {
			t.Error("P10.2: not Still")
		}
		Store(k, snaps, 1, 0, wayOf(0, 0), 7000)
		Still(k, snaps)
		Loads(k, refs...)
	})
	if tell(spare) != wantRefs || tell(snaps[:9]) != wantSnaps {
		t.Errorf("P2, R6: what was handed in is %v, %v", spare, snaps[:9])
	}
	snaps[0], snaps[1] = Snap{Ref: 1, Info: 5}, Snap{Ref: 2}
	if got := b.real.Records.Look(1); !slices.Equal(got.Nodes, refs) || !slices.Equal(got.Infos, []int64{0, 0}) {
		t.Errorf("P2, R6: the record is %v", got)
	}
}

// TestTasksThatAreNot: none panics, and nothing is changed, outside of a Step, without a thread, without a world, or with a world that nobody made.
func TestTasksThatAreNot(t *testing.T) {
	b := some(t, 20)
	l := b.snapsOf(b.nodes...)
	all := dump(b.real, b.nodes)
	for _, x := range []world.Task{{}, {World: b.real}, {Thread: thread.New(nil)}} {
		for _, r := range []ref.Ref{b.nodes[0], 0, -1} {
			if s, status := Load(x, r); !sameSnap(s, Snap{}) || status != 0 {
				t.Errorf("P2, R7: Load is %v, %d", s, status)
			}
		}
		if s, ok := Loads(x, b.nodes...); len(s) > 0 || ok {
			t.Errorf("P2, R7: Loads is %v, %t", s, ok)
		}
		if s, ok := Loads(x); len(s) > 0 || ok {
			t.Errorf("P2, R7: Loads of none is %v, %t", s, ok)
		}
		if done, none := Store(x, l, 1, 0, wayOf(0, 0), 7000); done || none {
			t.Errorf("P2, R7: Store is %t, %t", done, none)
		}
		if Still(x, l) || Still(x, nil) {
			t.Error("P2, R7: Still")
		}
	}
	ended := thread.New(nil)
	for _, x := range []world.Task{{Thread: ended, World: b.real}, {Thread: thread.New(func(*thread.Thread) []int64 { return nil }), World: b.real}, {Thread: ended, World: &world.World{}}} {
		Load(x, b.nodes[0])
		Loads(x, b.nodes...)
		Still(x, l)
		if done, _ := Store(x, l, 1, 0, wayOf(0, 0), 7000); done {
			t.Error("P1: outside of work Store is done")
		}
	}
	alone(t, &world.World{}, func(k world.Task) {
		Loads(k, 0, 1)
		if done, none := Store(k, l, 1, 0, 1, 2); done || !none {
			t.Error("P1: a record is made in a world that nobody made")
		}
	})
	if dump(b.real, b.nodes) != all {
		t.Error("P1: something changed")
	}
}

// TestSeveralInOneWork: what is behind a call in a thread's work goes on from what that came to.
func TestSeveralInOneWork(t *testing.T) {
	b := some(t, 20)
	var out string
	n := alone(t, b.real, func(k world.Task) {
		l, ok := Loads(k, b.nodes[0], b.nodes[1])
		first := Still(k, l)
		done, none := Store(k, l, 1, 1, wayOf(0, 1), 7000)
		second := Still(k, l)
		_, status := Load(k, b.nodes[1])
		again, _ := Store(k, l, 2, 1, 7000, 7001)
		s, then := Load(k, b.nodes[0])
		out = tell(ok, first, done, none, second, status, again, s.Ways, then)
	})
	want := tell(true, true, true, false, false, Gone, false, []ref.Ref{1000, 7000}, Seen)
	// 12 of Loads, 2 of Still, 7 of Store, 1 of Still, 5 of Load, 5 of Store, 7 of Load.
	if out != want || n != 12+2+7+1+5+5+7 {
		t.Errorf("P10.2: %s behind %d touches, not %s", out, n, want)
	}
	b.noFaults(t)
}
