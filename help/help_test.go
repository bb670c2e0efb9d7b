package help

import (
	"fmt"
	"math"
	"slices"
	"testing"

	"boscage/arena"
	"boscage/record"
	"boscage/ref"
	"boscage/thread"
	"boscage/world"
)

func TestExample(t *testing.T) {
	b := newBoth(t, 1)
	n := b.make(t, b.plain(1, 0))
	if out, touches := b.help(n).run(t); !out || touches != 4 {
		t.Errorf("P9.1: %t behind %d touches, not true behind 4", out, touches)
	}
	if got := stateOf(b.real, b.nodes[0]); got != (nodeState{info: n, ways: [ways]ref.Ref{1000, 7000, 1002}}) || b.real.Records.State(n) != record.Done {
		t.Errorf("P9.1: the node is %v, the record %d", got, b.real.Records.State(n))
	}
}

// TestStepByStep tells by hand what each Step does of a record of three nodes, two of which go.
func TestStepByStep(t *testing.T) {
	b := newBoth(t, 3)
	for range 4 {
		b.make(t, record.Record{})
	}
	b.do(func(w *world.World) { w.Arena.SwapInfo(b.nodes[1], 0, 3) })
	r := b.plain(1, 2, 1, 0)
	r.Infos[1] = 3
	n := b.make(t, r)
	w := b.real
	x := asTask(w, n)
	for i, c := range []struct {
		what  string
		infos [3]int64 // of the nodes 2, 1, 0
		all   bool
		marks [3]bool
		way   ref.Ref
		state record.State
	}{
		{"SwapInfo", [3]int64{n, 3, 0}, false, [3]bool{}, 1021, record.Going},
		{"SwapInfo", [3]int64{n, n, 0}, false, [3]bool{}, 1021, record.Going},
		{"SwapInfo", [3]int64{n, n, n}, false, [3]bool{}, 1021, record.Going},
		{"SetAll", [3]int64{n, n, n}, true, [3]bool{}, 1021, record.Going},
		{"SetMark", [3]int64{n, n, n}, true, [3]bool{false, true, false}, 1021, record.Going},
		{"SetMark", [3]int64{n, n, n}, true, [3]bool{false, true, true}, 1021, record.Going},
		{"SwapWay", [3]int64{n, n, n}, true, [3]bool{false, true, true}, 7000, record.Going},
		{"Set", [3]int64{n, n, n}, true, [3]bool{false, true, true}, 7000, record.Done},
	} {
		if end := x.Step(); end != (i == 7) || x.Steps() != i+1 {
			t.Errorf("P9.1: behind touch %d (%s) the end is told as %t, with %d touches", i+1, c.what, end, x.Steps())
		}
		for k := range 3 {
			node := b.nodes[2-k]
			if w.Arena.Info(node) != c.infos[k] || w.Arena.Mark(node) != c.marks[k] {
				t.Errorf("P9.1: behind touch %d (%s) node %d of the record has record %d, marked: %t", i+1, c.what, k, w.Arena.Info(node), w.Arena.Mark(node))
			}
		}
		if w.Records.All(n) != c.all || w.Records.State(n) != c.state || w.Arena.Way(b.nodes[2], 1) != c.way {
			t.Errorf("P9.1: behind touch %d (%s): All %t, state %d, way %d", i+1, c.what, w.Records.All(n), w.Records.State(n), w.Arena.Way(b.nodes[2], 1))
		}
	}
	if !slices.Equal(x.Out(), []int64{1}) || w.Arena.Faults() != 0 {
		t.Errorf("P9.1: %v, with %d faults", x.Out(), w.Arena.Faults())
	}
}

// TestKeep: records of no node and of more, those from Keep on being marked, whatever Keep is.
func TestKeep(t *testing.T) {
	for size := range 6 {
		for _, keep := range []int{0, 1, 2, 3, 4, 5, 6, 7, 1 << 32, math.MaxInt64} {
			b := newBoth(t, 7)
			n := b.make(t, b.plain(keep, []int{4, 1, 6, 2, 5}[:size]...))
			was := b.real.Records.Look(n)
			want := size + 2 + max(0, size-keep)
			if size > 0 {
				want++
			}
			if out, touches := b.help(n).run(t); !out || touches != want || b.real.Records.State(n) != record.Done || !b.real.Records.All(n) {
				t.Errorf("P9.1: of %d nodes, Keep %d: %t behind %d touches, not true behind %d", size, keep, out, touches, want)
			}
			for k, r := range b.nodes {
				at := slices.Index([]int{4, 1, 6, 2, 5}[:size], k)
				want := nodeState{ways: [ways]ref.Ref{wayOf(k, 0), wayOf(k, 1), wayOf(k, 2)}}
				if at >= 0 {
					want.info, want.mark = n, at >= keep
				}
				if at == 0 {
					want.ways[1] = 7000
				}
				if got := stateOf(b.real, r); got != want {
					t.Errorf("P9.1: of %d nodes, Keep %d: node %d is %v, not %v", size, keep, k, got, want)
				}
			}
			if got := b.real.Records.Look(n); !sameRecord(got, was) {
				t.Errorf("P9.1: the record is %v, not %v any more", got, was)
			}
		}
	}
}

func sameRecord(a, b record.Record) bool {
	return slices.Equal(a.Nodes, b.Nodes) && slices.Equal(a.Infos, b.Infos) && a.Keep == b.Keep && a.Way == b.Way && a.Old == b.Old && a.New == b.New
}

// TestWay: a way that the first node hasn't, or that is another one than Old, stays; the record is done all the same.
func TestWay(t *testing.T) {
	for _, way := range []int{0, 1, 2, 3, 4, -1, 1 << 32, math.MinInt64, math.MaxInt64} {
		for _, old := range []ref.Ref{wayOf(1, 0), wayOf(1, 1), wayOf(1, 2), wayOf(0, 1), 0, -1, math.MaxInt64} {
			for _, now := range []ref.Ref{7000, 0, wayOf(1, 1), math.MinInt64} {
				b := newBoth(t, 2)
				r := b.plain(2, 1, 0)
				r.Way, r.Old, r.New = way, old, now
				n := b.make(t, r)
				if out, touches := b.help(n).run(t); !out || touches != 5 || b.real.Records.State(n) != record.Done {
					t.Errorf("P9.1: way %d from %d to %d: %t behind %d touches", way, old, now, out, touches)
				}
				want := nodeState{info: n, ways: [ways]ref.Ref{wayOf(1, 0), wayOf(1, 1), wayOf(1, 2)}}
				if way >= 0 && way < ways && old == want.ways[way] {
					want.ways[way] = now
				}
				if got := stateOf(b.real, b.nodes[1]); got != want {
					t.Errorf("P9.1: way %d from %d to %d: the node is %v, not %v", way, old, now, got, want)
				}
				if got := stateOf(b.real, b.nodes[0]).ways; got != [ways]ref.Ref{1000, 1001, 1002} {
					t.Errorf("P9.1: way %d from %d to %d: the second node's ways are %v", way, old, now, got)
				}
			}
		}
	}
}

// TestLeafAsFirst: it has no way at all.
func TestLeafAsFirst(t *testing.T) {
	b := newBoth(t, 1)
	var r ref.Ref
	b.do(func(w *world.World) { r, _ = w.Arena.Alloc(arena.Node{}) })
	n := b.make(t, record.Record{Nodes: []ref.Ref{r}, Infos: []int64{0}})
	if out, touches := b.help(n).run(t); !out || touches != 5 || !b.real.Arena.Mark(r) || b.real.Arena.Way(r, 0) != 0 || b.real.Arena.Faults() != 0 {
		t.Errorf("P9.1: of a leaf: %t behind %d touches, way %d", out, touches, b.real.Arena.Way(r, 0))
	}
}

// found is what the nodes of a record are found with.
type found int

const (
	asTold found = iota // what stands in Infos
	others              // another record
	own                 // n already
	founds
)

// wantTouches reckons what a record of such nodes, Keep being 1, comes to, by hand.
func wantTouches(l []found, all bool) (bool, int) {
	touches := 0
	for _, f := range l {
		switch f {
		case asTold:
			touches++
		case own:
			touches += 2
		case others:
			if all {
				return true, touches + 3
			}
			return false, touches + 4
		}
	}
	return true, touches + 1 + len(l) - 1 + 1 + 1
}

// TestWhatNodesAreFoundWith: of one to four nodes, each found with what stands in Infos, with another record, or with n.
func TestWhatNodesAreFoundWith(t *testing.T) {
	for size := 1; size <= 4; size++ {
		l := make([]found, size)
		for more := true; more; more = nextFounds(l) {
			for _, all := range []bool{false, true} {
				newBoth(t, size).findWith(t, l, all)
			}
		}
	}
}

// nextFounds counts on; false: that was the last one.
func nextFounds(l []found) bool {
	for i := range l {
		if l[i]++; l[i] < founds {
			return true
		}
		l[i] = 0
	}
	return false
}

// findWith makes such a record, and helps it; what it did is held against what is reckoned by hand.
func (b *both) findWith(t *testing.T, l []found, all bool) {
	t.Helper()
	other := b.make(t, record.Record{})
	var which []int
	for k := range l {
		which = append(which, k)
	}
	r := b.plain(1, which...)
	for i := range l {
		r.Infos[i] = int64(20 + i)
	}
	n := b.make(t, r)
	b.do(func(w *world.World) {
		for i, f := range l {
			w.Arena.SwapInfo(b.nodes[i], 0, []int64{int64(20 + i), other, n}[f])
		}
		if all {
			w.Records.SetAll(n)
		}
	})
	out, touches := b.help(n).run(t)
	want, count := wantTouches(l, all)
	if out != want || touches != count {
		t.Errorf("P9.1: found %v, All %t: %t behind %d touches, not %t behind %d", l, all, out, touches, want, count)
	}
	first := slices.Index(l, others)
	state := record.Done
	if first >= 0 {
		state = record.Aborted
		if all {
			state = record.Going
		}
	}
	if got := b.real.Records.State(n); got != state || b.real.Records.All(n) != (all || first < 0) || b.real.Records.State(other) != record.Going || b.real.Records.All(other) {
		t.Errorf("P9.1: found %v, All %t: state %d, not %d; All %t", l, all, got, state, b.real.Records.All(n))
	}
	for i, f := range l {
		s := nodeState{info: n, ways: [ways]ref.Ref{wayOf(i, 0), wayOf(i, 1), wayOf(i, 2)}}
		if first >= 0 && i >= first {
			s.info = []int64{int64(20 + i), other, n}[f]
		}
		if s.mark = first < 0 && i >= 1; first < 0 && i == 0 {
			s.ways[1] = 7000
		}
		if got := stateOf(b.real, b.nodes[i]); got != s {
			t.Errorf("P9.1: found %v, All %t: node %d is %v, not %v", l, all, i, got, s)
		}
	}
}

// TestNodesThatAreNot: those that were freed, whose places are used again or not, and those that never were are found with record 0, which is a fault each time.
func TestNodesThatAreNot(t *testing.T) {
	for _, again := range []bool{false, true} {
		for at := range 3 {
			for _, all := range []bool{false, true} {
				for _, node := range []ref.Ref{0, ref.Of(3, 1), ref.Of(3, 9), ref.Of(150, 1), -1, math.MinInt64, math.MaxInt64} {
					for _, info := range []int64{0, 1, 77} {
						b := newBoth(t, 5)
						b.do(func(w *world.World) {
							w.Arena.Free(ref.Of(3, 1))
							if again {
								w.Arena.Alloc(arena.Node{Tagged: true})
							}
						})
						r := b.plain(0, 0, 2, 3)
						r.Nodes[at], r.Infos[at] = node, info
						b.make(t, record.Record{})
						n := b.make(t, r)
						if all {
							b.do(func(w *world.World) { w.Records.SetAll(n) })
						}
						p := b.help(n)
						for !p.ended() {
							p.stepUnseen(t)
						}
						want := at + 4 - int(bit(all))
						if p.twin.out != all || p.twin.steps != want || b.real.Arena.Faults() != 2 {
							t.Errorf("P9.1: node %d of three is %d: %t behind %d touches, with %d faults; not %t behind %d, with 2", at, node, p.twin.out, p.twin.steps, b.real.Arena.Faults(), all, want)
						}
						b.same(t)
					}
				}
			}
		}
	}
}

// stepUnseen is a step whose worlds aren't looked through, since looking at nodes that are not is a fault too.
func (p *pair) stepUnseen(t testing.TB) {
	t.Helper()
	p.real.Step()
	p.twin.step()
	if p.real.Done() != p.ended() || p.real.Steps() != p.twin.steps || p.worlds.real.Arena.Faults() != p.worlds.twin.Arena.Faults() {
		t.Fatalf("P9.1: behind touch %d: end %t, %d faults; not %t, %d", p.twin.steps, p.real.Done(), p.worlds.real.Arena.Faults(), p.ended(), p.worlds.twin.Arena.Faults())
	}
	if p.ended() && !slices.Equal(p.real.Out(), []int64{bit(p.twin.out)}) {
		t.Fatalf("P9.1: it comes to %v, not %t", p.real.Out(), p.twin.out)
	}
}

// TestNumbersOfNone: two touches, true, and nothing is changed.
func TestNumbersOfNone(t *testing.T) {
	for _, some := range []int{0, 1, 3} {
		for _, n := range []int64{0, -1, -2, int64(some) + 1, int64(some) + 2, 300, 301, 65536, 1<<32 + 1, math.MinInt64, math.MaxInt64} {
			b := newBoth(t, 2)
			for range some {
				b.make(t, b.plain(1, 0, 1))
			}
			if out, touches := b.help(n).run(t); !out || touches != 2 {
				t.Errorf("P9.1: number %d: %t behind %d touches, not true behind 2", n, out, touches)
			}
			for i := range some {
				if m := int64(i) + 1; b.real.Records.State(m) != record.Going || b.real.Records.All(m) {
					t.Errorf("P9.1: number %d: record %d is %d", n, m, b.real.Records.State(m))
				}
			}
			for k := range b.nodes {
				if got := stateOf(b.real, b.nodes[k]); got != (nodeState{ways: [ways]ref.Ref{wayOf(k, 0), wayOf(k, 1), wayOf(k, 2)}}) {
					t.Errorf("P9.1: number %d: node %d is %v", n, k, got)
				}
			}
			if b.real.Records.State(n) != record.Aborted || b.real.Records.All(n) || b.real.Arena.Faults() != 0 {
				t.Errorf("P9.1: number %d is %d, All %t", n, b.real.Records.State(n), b.real.Records.All(n))
			}
		}
	}
}

// look is all that may change.
func (b *both) look() string {
	var l []any
	for _, r := range b.nodes {
		l = append(l, stateOf(b.real, r))
	}
	for i := range b.real.Records.Len() {
		l = append(l, b.real.Records.State(int64(i)+1), b.real.Records.All(int64(i)+1))
	}
	return fmt.Sprint(l...)
}

// TestDoneAgain: it is what it came to, and nothing changes, be its nodes still its own, or other records' by then.
func TestDoneAgain(t *testing.T) {
	for next := range 8 {
		b := newBoth(t, 3)
		n := b.make(t, b.plain(2, 0, 1, 2))
		b.help(n).run(t)
		// Others take some of the nodes that it kept; the third is gone.
		r := record.Record{Keep: 9, Way: 0, Old: 5, New: 6}
		for k := range 2 {
			if next>>k&1 == 1 {
				r.Nodes, r.Infos = append(r.Nodes, b.nodes[k]), append(r.Infos, n)
			}
		}
		m := b.make(t, r)
		if next>>2 == 1 {
			b.help(m).run(t)
		} else {
			for range r.Nodes {
				b.help(m).step(t)
			}
		}
		was := b.look()
		for range 3 {
			if out, _ := b.help(n).run(t); !out || b.look() != was {
				t.Errorf("P9.1, P9.2: done again, others %b: %t, and all is %s, not %s", next, out, b.look(), was)
			}
		}
		if b.real.Records.State(n) != record.Done {
			t.Errorf("P9.2: the record is %d", b.real.Records.State(n))
		}
	}
}

// TestDoneAgainTouches: of nodes that are its own still each takes two touches.
func TestDoneAgainTouches(t *testing.T) {
	for size := 1; size <= 4; size++ {
		for keep := range size + 2 {
			b := newBoth(t, 4)
			n := b.make(t, b.plain(keep, []int{3, 1, 0, 2}[:size]...))
			b.help(n).run(t)
			was := b.look()
			want := 2*size + 1 + max(0, size-keep) + 2
			if out, touches := b.help(n).run(t); !out || touches != want || b.look() != was {
				t.Errorf("P9.1: of %d nodes, Keep %d, done again: %t behind %d touches, not true behind %d", size, keep, out, touches, want)
			}
		}
	}
}

// TestAbortedAgain: the node that another record had is the first, in the midst, the last; then it is aborted again, and nothing changes.
func TestAbortedAgain(t *testing.T) {
	for at := range 3 {
		b := newBoth(t, 3)
		m := b.make(t, b.plain(1, at))
		n := b.make(t, b.plain(1, 0, 1, 2))
		b.help(m).run(t)
		if out, touches := b.help(n).run(t); out || touches != at+4 || b.real.Records.State(n) != record.Aborted || b.real.Records.All(n) {
			t.Errorf("P9.1: node %d is another's: %t behind %d touches", at, out, touches)
		}
		was := b.look()
		for range 3 {
			if out, touches := b.help(n).run(t); out || touches != 2*at+4 || b.look() != was {
				t.Errorf("P9.1, P9.2: aborted again: %t behind %d touches, and all is %s, not %s", out, touches, b.look(), was)
			}
		}
		// A third record takes the nodes from the one that was aborted.
		r := b.plain(0, 0, 1, 2)
		for i := range 3 {
			r.Infos[i] = b.real.Arena.Info(b.nodes[i])
		}
		third := b.make(t, r)
		b.help(third).run(t)
		was = b.look()
		if out, touches := b.help(n).run(t); out || touches != 4 || b.look() != was || b.real.Records.State(third) != record.Done {
			t.Errorf("P9.1, P9.2: aborted again: %t behind %d touches, and all is %s, not %s", out, touches, b.look(), was)
		}
	}
}

// TestTasksThatAreNot: none panics, and nothing is changed, outside of a Step, without a thread, without a world, or with a world that nobody made.
func TestTasksThatAreNot(t *testing.T) {
	b := newBoth(t, 2)
	n := b.make(t, b.plain(1, 0, 1))
	was := b.look()
	for _, x := range []world.Task{{}, {World: b.real}, {Thread: thread.New(nil)}} {
		for _, m := range []int64{n, 0, -1, 9} {
			if Record(x, m) {
				t.Errorf("P2, R7: a task without a thread, or without a world: record %d is done", m)
			}
		}
	}
	for _, x := range []world.Task{{Thread: thread.New(nil), World: b.real}, {Thread: thread.New(func(*thread.Thread) []int64 { return nil }), World: b.real}, {World: &world.World{}}} {
		for _, m := range []int64{n, 0, -1, 9} {
			if Record(x, m) && m == n {
				t.Errorf("P1: outside of work record %d is done", m)
			}
		}
	}
	for _, w := range []*world.World{nil, {}} {
		x := asTask(w, 1)
		for range 9 {
			x.Step()
		}
		if !x.Done() {
			t.Error("P1: no end")
		}
	}
	if b.look() != was || b.real.Arena.Faults() != 0 || b.real.Records.Len() != 1 {
		t.Errorf("P1: something was changed: %s, not %s", b.look(), was)
	}
}

// TestTwoInOneWork: what is behind Record in a thread's work goes on from what it came to.
func TestTwoInOneWork(t *testing.T) {
	b := newBoth(t, 2)
	first, second := b.make(t, b.plain(1, 0)), b.make(t, b.plain(1, 0, 1))
	x := thread.New(func(x *thread.Thread) []int64 {
		k := world.Task{Thread: x, World: b.real}
		return []int64{bit(Record(k, first)), bit(Record(k, second)), bit(Record(k, 0)), bit(Record(k, first))}
	})
	n := 1
	for ; !x.Step() && n < 99; n++ {
	}
	if n != 4+4+2+5 || !slices.Equal(x.Out(), []int64{1, 0, 1, 1}) {
		t.Errorf("P9.1: %v behind %d touches, not 1 0 1 1 behind 15", x.Out(), n)
	}
}
