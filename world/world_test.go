package world

import (
	"fmt"
	"math"
	"math/rand"
	"slices"
	"testing"

	"boscage/api"
	"boscage/arena"
	"boscage/inner"
	"boscage/leaf"
	"boscage/ref"
	"boscage/thread"
)

// runs goes on with one task's work alone, to its end: how many Steps that takes.
func runs(t *testing.T, w *World, me int, work func(t Task)) int {
	t.Helper()
	x := thread.New(func(x *thread.Thread) []int64 {
		work(Task{Thread: x, World: w, Me: me})
		return nil
	})
	for n := 1; n < 10000; n++ {
		if x.Step() {
			return n
		}
	}
	t.Fatal("P1: no end")
	return 0
}

func TestExamples(t *testing.T) {
	w := made(t, 1, 3)
	if n := runs(t, w, 0, Task.Begin); n != 6 || w.Epochs.Now() != 1 || w.Epochs.Said(0) != 0 {
		t.Errorf("P8.2: Begin has %d touches, epoch %d, announced %d; not 6, 1, 0", n, w.Epochs.Now(), w.Epochs.Said(0))
	}
	if _, e := New(3, 4, 1, 9, 9); e != api.ErrRange {
		t.Errorf("P8.1: New(3, 4, 1, 9, 9) is %d", e)
	}
}

// TestBeginStepByStep tells by hand what each Step of a Begin alone does.
func TestBeginStepByStep(t *testing.T) {
	w := made(t, 1, 6)
	var gone []ref.Ref
	for _, at := range []int64{0, 1, 2} {
		r, _ := w.Arena.Alloc(arena.Node{})
		gone = append(gone, r)
		w.Epochs.Leave(0, r, at)
	}
	for i := range int64(3) {
		w.Epochs.Swap(i)
	}
	x := thread.New(func(x *thread.Thread) []int64 {
		Task{Thread: x, World: w}.Begin()
		return nil
	})
	for i, c := range []struct {
		what        string
		now, said   int64
		limbo, used int
		end         bool
	}{
		{"Now", 3, -1, 3, 5, false},
		{"Say", 3, 3, 3, 5, false},
		{"Said", 3, 3, 3, 5, false},
		{"Swap", 4, 3, 3, 5, false},
		{"Now", 4, 3, 3, 5, false},
		{"Ready, Free", 4, 3, 2, 4, false},
		{"Ready, Free", 4, 3, 1, 3, false},
		{"Ready", 4, 3, 1, 3, true},
	} {
		done := x.Step()
		if done != c.end || w.Epochs.Now() != c.now || w.Epochs.Said(0) != c.said || w.Epochs.Limbo() != c.limbo || w.Arena.Used() != c.used || x.Steps() != i+1 {
			t.Errorf("P8.2: behind touch %d (%s): end %t, epoch %d, announced %d, %d wait, %d used", i+1, c.what, done, w.Epochs.Now(), w.Epochs.Said(0), w.Epochs.Limbo(), w.Arena.Used())
		}
	}
	if w.Arena.Faults() != 0 {
		t.Errorf("P8.2: %d faults", w.Arena.Faults())
	}
	// Those that were freed have their places used again in that order.
	for _, r := range gone[:2] {
		if got, _ := w.Arena.Alloc(arena.Node{}); got != ref.Of(r.Place(), 2) {
			t.Errorf("P8.2: %d is used again, not %d", got, r)
		}
	}
	if w.Arena.Look(gone[2]); w.Arena.Faults() != 0 {
		t.Error("P8.2: a node was freed that waits")
	}
}

// TestBeginTouches reckons how many touches Begin has: three for Now, Say and Now, one a thread that is asked, Swap, the last Ready.
func TestBeginTouches(t *testing.T) {
	for _, threads := range []int{1, 2, 3, 5, 63, 64} {
		for _, me := range []int{0, threads / 2, threads - 1} {
			for _, other := range []int64{-1, 4} {
				w := made(t, threads, 2)
				sayAll(w, other)
				if n := runs(t, w, me, Task.Begin); n != threads+5 || w.Epochs.Now() != 5 || w.Epochs.Said(me) != 4 {
					t.Errorf("P8.2: of %d that announced %d: %d touches, epoch %d", threads, other, n, w.Epochs.Now())
				}
			}
			for first := range threads {
				if first == me {
					continue
				}
				for _, other := range []int64{0, 3, 5, -2, math.MinInt64, math.MaxInt64, 1<<32 + 4, 1<<32 - 1} {
					w := made(t, threads, 2)
					sayAll(w, -1)
					w.Epochs.Say(first, other)
					if first+2 < threads && first+2 != me {
						w.Epochs.Say(first+2, other)
					}
					if n := runs(t, w, me, Task.Begin); n != first+5 || w.Epochs.Now() != 4 || w.Epochs.Said(me) != 4 {
						t.Errorf("P8.2: of %d, thread %d announced %d: %d touches, epoch %d", threads, first, other, n, w.Epochs.Now())
					}
				}
			}
		}
	}
}

// sayAll takes a world to epoch 4, in which all announced n.
func sayAll(w *World, n int64) {
	for i := range int64(4) {
		w.Epochs.Swap(i)
	}
	for i := range w.Epochs.Len() {
		w.Epochs.Say(i, n)
	}
}

// between are changes by others, from which it is seen what a touch reads.
func between() []func(w *World) {
	return []func(w *World){
		func(w *World) {},
		func(w *World) { w.Epochs.Swap(w.Epochs.Now()) },
		func(w *World) {
			for range 3 {
				w.Epochs.Swap(w.Epochs.Now())
			}
		},
		func(w *World) { w.Epochs.Say(0, 77) },
		func(w *World) { w.Epochs.Say(1, 77) },
		func(w *World) { w.Epochs.Say(2, 77) },
		func(w *World) { w.Epochs.Say(0, -1) },
		func(w *World) { w.Epochs.Say(1, -1) },
		func(w *World) { w.Epochs.Say(2, -1) },
		func(w *World) { w.Epochs.Say(1, w.Epochs.Now()) },
		func(w *World) { w.Epochs.Ready(1, math.MaxInt64) },
		func(w *World) { w.Epochs.Ready(1, w.Epochs.Now()) },
		func(w *World) { w.Epochs.Leave(1, ref.Of(5, 1), -9) },
		func(w *World) { w.Arena.Alloc(arena.Node{Tagged: true}) },
	}
}

// starts are worlds of three threads, in epoch 4, in which thread 1 let some nodes go, and 0 one.
func starts() []func(w *World) {
	var out []func(w *World)
	for _, said := range [][3]int64{{-1, -1, -1}, {4, -1, 4}, {3, -1, -1}, {-1, 3, -1}, {-1, -1, 3}, {3, 3, 3}, {5, 4, -1}} {
		for _, went := range [][]int64{nil, {0}, {2}, {0, 1, 2, 2}, {1, 0, 9, 0}, {9, 0, 0}} {
			out = append(out, func(w *World) {
				for i := range int64(4) {
					w.Epochs.Swap(i)
				}
				for i, n := range said {
					w.Epochs.Say(i, n)
				}
				for i, at := range went {
					w.Epochs.Leave(1, ref.Of(2+i, 1), at)
				}
				w.Epochs.Leave(0, ref.Of(6, 1), 0)
			})
		}
	}
	return out
}

// TestBeginWithOthersBetween: whatever others do ahead of any touch of it, Begin does what the chapter says, touch by touch.
func TestBeginWithOthersBetween(t *testing.T) {
	for i, start := range starts() {
		for j, change := range between() {
			for at := range 14 {
				t.Run(fmt.Sprint(i, j, at), func(t *testing.T) {
					b := newBoth(t, 3, 9)
					for range 5 {
						b.node(t, arena.Node{})
					}
					b.do(start)
					p := b.work(1, nil, act{kind: begin})
					for n, ended := 0, false; !ended; n++ {
						if n == at {
							b.do(change)
						}
						ended = p.step(t)
					}
					b.close(t, ref.Of(2, 1), ref.Of(3, 1), ref.Of(4, 1), ref.Of(5, 1), ref.Of(6, 1))
				})
			}
		}
	}
}

func TestBeginFreesWhatMayBeFreedOnly(t *testing.T) {
	for _, c := range []struct {
		went  []int64 // each in its epoch; Begin goes from 4 on to 5
		freed int
	}{
		{nil, 0}, {[]int64{2}, 1}, {[]int64{3}, 0}, {[]int64{0, 1, 2}, 3}, {[]int64{2, 3, 2}, 1}, {[]int64{3, 0, 0}, 0}, {[]int64{0, 0, 4, 0}, 2}, {[]int64{-7, 2, 2, 2, 3}, 4},
	} {
		w := made(t, 2, 12)
		sayAll(w, -1)
		var l []ref.Ref
		for _, at := range c.went {
			r, _ := w.Arena.Alloc(arena.Node{})
			l = append(l, r)
			w.Epochs.Leave(1, r, at)
		}
		other, _ := w.Arena.Alloc(arena.Node{})
		w.Epochs.Leave(0, other, 0)
		n := runs(t, w, 1, Task.Begin)
		if n != 7+c.freed || w.Arena.Used() != 3+len(l)-c.freed || w.Epochs.Limbo() != 1+len(l)-c.freed || w.Arena.Faults() != 0 {
			t.Errorf("P8.2: of %v: %d touches, %d used, %d wait, %d faults; %d are to be freed", c.went, n, w.Arena.Used(), w.Epochs.Limbo(), w.Arena.Faults(), c.freed)
		}
		for i, r := range l {
			faults := w.Arena.Faults()
			if w.Arena.Look(r); (w.Arena.Faults() > faults) != (i < c.freed) {
				t.Errorf("P8.2: of %v node %d: freed is %t", c.went, i, i >= c.freed)
			}
		}
		if got := w.Epochs.Ready(0, 5); got != other {
			t.Errorf("P8.2: another thread's node doesn't wait any more: %d", got)
		}
	}
}

// TestBeginFreesByTheSecondNow: others went on by several epochs behind the first touch; what is freed hangs on the epoch that the second Now tells.
func TestBeginFreesByTheSecondNow(t *testing.T) {
	for at := range 8 {
		w := made(t, 1, 4)
		r, _ := w.Arena.Alloc(arena.Node{})
		w.Epochs.Leave(0, r, 2)
		x := asTask(w, 0, nil, []act{{kind: begin}})
		for n, done := 0, false; !done; n++ {
			if n == at {
				for range 9 {
					w.Epochs.Swap(w.Epochs.Now())
				}
			}
			done = x.Step()
		}
		if freed := w.Arena.Used() == 2; freed != (at <= 4) {
			t.Errorf("P8.2: the epoch went on ahead of touch %d: freed is %t", at+1, freed)
		}
	}
}

func TestEnd(t *testing.T) {
	for _, threads := range []int{1, 3, 64} {
		for _, me := range []int{0, threads / 2, threads - 1} {
			for _, said := range []int64{-1, 0, 4, math.MaxInt64} {
				w := made(t, threads, 3)
				sayAll(w, said)
				w.Epochs.Leave(me, 9, 0)
				if n := runs(t, w, me, Task.End); n != 1 {
					t.Errorf("P8.2: End has %d touches", n)
				}
				for i := range threads {
					if got := w.Epochs.Said(i); i == me && got != -1 || i != me && got != said {
						t.Errorf("P8.2: behind End of %d thread %d announced %d", me, i, got)
					}
				}
				if w.Epochs.Now() != 4 || w.Epochs.Limbo() != 1 || w.Arena.Used() != 2 || w.Arena.Faults() != 0 {
					t.Errorf("P8.2: End changed something else")
				}
			}
		}
	}
}

func TestMakeTillThereIsNoRoom(t *testing.T) {
	for _, nodes := range []int{2, 3, 4, 8, 40} {
		w := made(t, 1, nodes)
		some := someNodes()
		var got []ref.Ref
		x := thread.New(func(x *thread.Thread) []int64 {
			got = nil
			for i := range nodes + 1 {
				got = append(got, Task{Thread: x, World: w}.Make(some[i%len(some)]))
			}
			return nil
		})
		for n := 1; !x.Step(); n++ {
			if x.Steps() != n || w.Arena.Used() != min(2+n, nodes) {
				t.Errorf("P8.2: behind %d touches %d of %d places are used", n, w.Arena.Used(), nodes)
			}
		}
		if x.Steps() != nodes+1 {
			t.Errorf("P8.2: Make %d times has %d touches", nodes+1, x.Steps())
		}
		for i, r := range got {
			want := ref.Of(2+i, 1)
			if 2+i >= nodes {
				want = 0
			}
			if r != want {
				t.Errorf("P8.2: Make %d of %d places tells %d, not %d", i+1, nodes, r, want)
			}
			if want != 0 {
				freshNode(t, w, r, some[i%len(some)])
			}
		}
		if w.Arena.Faults() != 0 {
			t.Errorf("P8.2: %d faults", w.Arena.Faults())
		}
	}
}

// freshNode: it is as it was handed in, and nobody was at it.
func freshNode(t *testing.T, w *World, r ref.Ref, n arena.Node) {
	t.Helper()
	if got := w.Arena.Look(r); !sameNode(got, n) {
		t.Errorf("P8.2: node %d is %v, not %v", r, got, n)
	}
	for i, way := range append(slices.Clone(n.Ways.Ways), 0) {
		if w.Arena.Way(r, i) != way {
			t.Errorf("P8.2: way %d of node %d is %d, not %d", i, r, w.Arena.Way(r, i), way)
		}
	}
	if w.Arena.Info(r) != 0 || w.Arena.Mark(r) {
		t.Errorf("P8.2: node %d has record %d, marked: %t", r, w.Arena.Info(r), w.Arena.Mark(r))
	}
}

func TestMakeUsesPlacesAgain(t *testing.T) {
	w := made(t, 1, 4)
	var got []ref.Ref
	runs(t, w, 0, func(x Task) {
		a, b := x.Make(arena.Node{}), x.Make(arena.Node{})
		none := x.Make(arena.Node{})
		x.Drop(b, a)
		got = []ref.Ref{a, b, none, x.Make(arena.Node{}), x.Make(arena.Node{}), x.Make(arena.Node{})}
	})
	if want := []ref.Ref{ref.Of(2, 1), ref.Of(3, 1), 0, ref.Of(3, 2), ref.Of(2, 2), 0}; !slices.Equal(got, want) {
		t.Errorf("P8.2: references %v, not %v", got, want)
	}
}

func TestDropInOrderWithoutNone(t *testing.T) {
	a, b, c := ref.Of(2, 1), ref.Of(3, 1), ref.Of(4, 1)
	for _, l := range [][]ref.Ref{
		nil, {}, {0}, {0, 0, 0}, {a}, {c, a, b}, {0, b, 0, 0, a, 0}, {b, c}, {a, b, c, 0},
	} {
		w := made(t, 2, 5)
		for range 3 {
			w.Arena.Alloc(arena.Node{})
		}
		x := thread.New(func(x *thread.Thread) []int64 {
			Task{Thread: x, World: w, Me: 1}.Drop(l...)
			return nil
		})
		some := slices.DeleteFunc(slices.Clone(l), func(r ref.Ref) bool { return r == 0 })
		for n := 1; n < len(some); n++ {
			if x.Step() || w.Arena.Used() != 5-n {
				t.Errorf("P8.2: behind touch %d of Drop(%v) %d places are used", n, l, w.Arena.Used())
			}
		}
		if !x.Step() || x.Steps() != len(some) || w.Arena.Used() != 5-len(some) || w.Arena.Faults() != 0 || w.Epochs.Limbo() != 0 {
			t.Errorf("P8.2: Drop(%v) has %d touches, %d are used, %d faults", l, x.Steps(), w.Arena.Used(), w.Arena.Faults())
		}
		for _, r := range some {
			if got, _ := w.Arena.Alloc(arena.Node{}); got != ref.Of(r.Place(), 2) {
				t.Errorf("P8.2: behind Drop(%v) %d is used again, not place %d", l, got, r.Place())
			}
		}
	}
}

// TestDropOfWhatIsNot: references that aren't right are faults, one touch each, and no more.
func TestDropOfWhatIsNot(t *testing.T) {
	w := made(t, 1, 5)
	r, _ := w.Arena.Alloc(arena.Node{})
	n := runs(t, w, 0, func(x Task) { x.Drop(-1, r, r, ref.Of(2, 2), 0, ref.Of(9, 1), math.MinInt64, math.MaxInt64) })
	if n != 7 || w.Arena.Used() != 2 || w.Arena.Faults() != 6 {
		t.Errorf("P8.2: %d touches, %d used, %d faults; not 7, 2, 6", n, w.Arena.Used(), w.Arena.Faults())
	}
}

func TestLeaveInOrder(t *testing.T) {
	a, b, c := ref.Of(2, 1), ref.Of(3, 1), ref.Of(4, 1)
	for _, l := range [][]ref.Ref{nil, {}, {a}, {b, a}, {c, a, b}, {c, b, a}, {a, a}, {0, b}, {-1, a}} {
		w := made(t, 3, 5)
		var was []arena.Node
		for _, n := range someNodes()[2:5] {
			w.Arena.Alloc(n)
			was = append(was, n)
		}
		x := thread.New(func(x *thread.Thread) []int64 {
			Task{Thread: x, World: w, Me: 1}.Leave(l...)
			return nil
		})
		// Ahead of each touch the epoch goes on by one, so that the epoch of each node tells which touch read it.
		for n, done := 0, false; !done; n++ {
			w.Epochs.Swap(int64(n))
			if done = x.Step(); w.Epochs.Limbo() != x.Steps()/2 || w.Arena.Used() != 5 {
				t.Errorf("P8.2: behind %d touches of Leave(%v) %d wait, %d are used", n+1, l, w.Epochs.Limbo(), w.Arena.Used())
			}
		}
		if x.Steps() != 2*len(l) {
			t.Errorf("P8.2: Leave(%v) has %d touches", l, x.Steps())
		}
		for i, n := range was {
			freshNode(t, w, ref.Of(2+i, 1), n)
		}
		if w.Epochs.Said(1) != -1 || w.Arena.Faults() != 0 {
			t.Errorf("P8.2: Leave(%v) announced %d, with %d faults", l, w.Epochs.Said(1), w.Arena.Faults())
		}
		for i, r := range l {
			at := int64(2*i + 1)
			if got := w.Epochs.Ready(1, at+2); got != 0 {
				t.Errorf("P8.2: Leave(%v): %d is ready in epoch %d", l, got, at+2)
			}
			if got := w.Epochs.Ready(1, at+3); got != r {
				t.Errorf("P8.2: Leave(%v): %d is ready in epoch %d, not %d", l, got, at+3, r)
			}
		}
		if w.Epochs.Limbo() != 0 {
			t.Errorf("P8.2: Leave(%v): %d others wait", l, w.Epochs.Limbo())
		}
	}
}

// TestWithOthersBetween: End, Make, Drop and Leave, whatever others do ahead of any of their touches.
func TestWithOthersBetween(t *testing.T) {
	acts := []act{
		{kind: mak, to: 1, node: someNodes()[2]}, {kind: mak, to: 2}, {kind: leave, slots: []int{2, 1}}, {kind: mak, to: 3}, {kind: drop, slots: []int{0, 3, 0}},
		{kind: drop}, {kind: leave}, {kind: end}, {kind: mak, to: 4}, {kind: leave, slots: []int{4}}, {kind: begin}, {kind: end}, {kind: mak, to: 5}, {kind: mak, to: 6},
	}
	for j, change := range between() {
		for at := range 30 {
			t.Run(fmt.Sprint(j, at), func(t *testing.T) {
				b := newBoth(t, 3, 5)
				p := b.work(1, nil, acts...)
				for n, ended := 0, false; !ended; n++ {
					if n == at {
						b.do(change)
					}
					ended = p.step(t)
				}
				b.close(t, ref.Of(2, 1), ref.Of(3, 1), ref.Of(4, 1), ref.Of(2, 2), ref.Of(3, 2), ref.Of(4, 2))
			})
		}
	}
}

// randomActs: nodes that are let go, or dropped, aren't any more, so that work is as the later layers' is: without faults.
func randomActs(r *rand.Rand) []act {
	some := someNodes()
	acts := []act{{kind: begin}}
	var has []int
	for to := 1; to < slots; to++ {
		acts = append(acts, act{kind: mak, to: to, node: some[r.Intn(len(some))]})
		has = append(has, to)
		r.Shuffle(len(has), func(i, j int) { has[i], has[j] = has[j], has[i] })
		n := r.Intn(len(has) + 1)
		switch r.Intn(4) {
		case 0:
			acts = append(acts, act{kind: drop, slots: append([]int{0}, has[:n]...)})
			has = slices.Clone(has[n:])
		case 1:
			acts = append(acts, act{kind: leave, slots: slices.Clone(has[:n])})
			has = slices.Clone(has[n:])
		}
		if r.Intn(8) == 0 {
			acts = append(acts, act{kind: end}, act{kind: begin})
		}
	}
	return append(acts, act{kind: drop, slots: has}, act{kind: end})
}

// TestSeveralThreads: in orders of all kinds, each Step is one touch of its own work.
func TestSeveralThreads(t *testing.T) {
	for seed := range int64(300) {
		r := rand.New(rand.NewSource(seed))
		threads := 1 + r.Intn(5)
		b := newBoth(t, threads, 8+r.Intn(60))
		work := make([]pair, threads)
		for i := range work {
			work[i] = b.work(i, nil, randomActs(r)...)
		}
		slow := r.Intn(threads)
		for range 700 {
			i := r.Intn(threads)
			// One of them stands still most of the time, so that others' epochs wait for it.
			if i == slow && r.Intn(6) > 0 {
				continue
			}
			if work[i].step(t) {
				work[i] = b.work(i, nil, randomActs(r)...)
			}
		}
		for _, p := range work {
			p.run(t)
		}
		b.close(t)
	}
}

// TestOrdersOfTwo goes through every order of two threads' Begins.
func TestOrdersOfTwo(t *testing.T) {
	const turns = 16 // two Begins have eight touches each at most here: one node each is freed
	whole := 0
	for order := range 1 << turns {
		b := newBoth(t, 2, 6)
		for i := range 2 {
			r := b.node(t, arena.Node{})
			b.do(func(w *World) { w.Epochs.Leave(i, r, -3+int64(i)) })
		}
		work := []pair{b.work(0, nil, act{kind: begin}), b.work(1, nil, act{kind: begin})}
		if !inOrder(t, work, order, turns) {
			continue
		}
		whole++
		if !work[0].twin.ended || !work[1].twin.ended {
			t.Fatalf("P8.2: order %b: %d turns are too few", order, turns)
		}
		b.close(t)
	}
	if whole < 1000 {
		t.Errorf("P8.2: %d orders only", whole)
	}
}

// inOrder goes on with that work of two which each turn's bit names; false: a turn names work that is at its end, so that another order is the same as this one.
func inOrder(t *testing.T, work []pair, order, turns int) bool {
	t.Helper()
	for n := range turns {
		p := work[order>>n&1]
		if p.twin.ended {
			return work[1].twin.ended && work[0].twin.ended && order>>n == 0
		}
		p.step(t)
	}
	return true
}

// TestNodesWaitWhileOneStandsStill: what one may be at isn't freed; when it is at its end, and each began four times, all is.
func TestNodesWaitWhileOneStandsStill(t *testing.T) {
	w := made(t, 2, 9)
	runs(t, w, 0, Task.Begin)
	runs(t, w, 1, func(x Task) {
		x.Begin()
		x.Leave(x.Make(arena.Node{}), x.Make(arena.Node{}))
		x.End()
	})
	for range 10 {
		runs(t, w, 1, func(x Task) { x.Begin(); x.End() })
	}
	if w.Epochs.Limbo() != 2 || w.Arena.Used() != 4 || w.Epochs.Now() > 2 {
		t.Errorf("P8.2: while one stands still: %d wait, %d are used, epoch %d", w.Epochs.Limbo(), w.Arena.Used(), w.Epochs.Now())
	}
	runs(t, w, 0, Task.End)
	for range 4 {
		runs(t, w, 1, func(x Task) { x.Begin(); x.End() })
	}
	if w.Epochs.Limbo() != 0 || w.Arena.Used() != 2 || w.Arena.Faults() != 0 {
		t.Errorf("P8.2: then: %d wait, %d are used, %d faults", w.Epochs.Limbo(), w.Arena.Used(), w.Arena.Faults())
	}
}

func TestHandedInIsNeitherChangedNorKept(t *testing.T) {
	w := made(t, 1, 9)
	refs := []ref.Ref{ref.Of(2, 1), ref.Of(3, 1), 0, 77, 78}
	was := slices.Clone(refs)
	node := arena.Node{
		Inner: true,
		Pairs: leaf.Leaf{{Key: 1, Value: 2}, {Key: 8, Value: 9}}[:1],
		Ways:  inner.Inner{Keys: []int64{5, 6, 7}[:1], Ways: []ref.Ref{3, 4, 5, 6}[:2]},
	}
	runs(t, w, 0, func(x Task) {
		x.Make(node)
		x.Make(node)
		x.Leave(refs[:2]...)
	})
	if node.Pairs[:2][1].Key != 8 || node.Pairs[0].Value != 2 || !slices.Equal(node.Ways.Keys[:3], []int64{5, 6, 7}) || !slices.Equal(node.Ways.Ways[:4], []ref.Ref{3, 4, 5, 6}) {
		t.Errorf("P2, R6: Make changed what it was handed: %v", node)
	}
	if !slices.Equal(refs, was) {
		t.Errorf("P2, R6: Leave changed what it was handed: %v", refs)
	}
	node.Pairs[0], node.Ways.Keys[0], node.Ways.Ways[0] = leaf.Pair{Key: 6, Value: 6}, 66, 666
	refs[0], refs[1] = 0, 0
	for _, r := range was[:2] {
		if n := w.Arena.Look(r); n.Pairs[0].Key != 1 || n.Ways.Keys[0] != 5 || n.Ways.Ways[0] != 3 || w.Arena.Way(r, 0) != 3 {
			t.Errorf("P2, R6: Make kept what it was handed: %v", n)
		}
		if got := w.Epochs.Ready(0, 9); got != r {
			t.Errorf("P2, R6: Leave kept what it was handed: %d, not %d", got, r)
		}
	}
	copy(refs, was)
	runs(t, w, 0, func(x Task) { x.Drop(refs[:3]...) })
	if !slices.Equal(refs, was) || w.Arena.Used() != 2 {
		t.Errorf("P2, R6: Drop changed what it was handed: %v", refs)
	}
}

// TestTasksThatAreNot: none panics, and nothing is changed, outside of a Step, without a thread, without a world, or with a world that nobody made.
func TestTasksThatAreNot(t *testing.T) {
	w := made(t, 1, 5)
	all := func(x Task) ref.Ref {
		x.Begin()
		r := x.Make(arena.Node{})
		x.Drop(w.Entry, 0)
		x.Leave(w.Entry)
		x.End()
		return r
	}
	w.Epochs.Say(0, 7)
	for _, x := range []Task{{}, {World: w}, {Thread: thread.New(nil), World: w}, {World: &World{}}, {Thread: thread.New(func(*thread.Thread) []int64 { return nil }), World: w}} {
		if r := all(x); r != 0 {
			t.Errorf("P1: Make tells %d", r)
		}
	}
	runs(t, nil, 0, func(x Task) { all(x) })
	runs(t, &World{}, 0, func(x Task) { all(x) })
	if w.Arena.Used() != 2 || w.Arena.Faults() != 0 || w.Epochs.Now() != 0 || w.Epochs.Said(0) != 7 || w.Epochs.Limbo() != 0 {
		t.Error("P1: something was changed")
	}
}

// TestTasksOfNoThread: a number that isn't a thread's announces nothing, and lets nothing go.
func TestTasksOfNoThread(t *testing.T) {
	for _, me := range []int{-1, 2, 3, 64, 1 << 32, math.MinInt64, math.MaxInt64} {
		b := newBoth(t, 2, 5)
		b.work(me, nil, act{kind: begin}, act{kind: mak, to: 1}, act{kind: mak, to: 2}, act{kind: leave, slots: []int{1}}, act{kind: drop, slots: []int{2, 0}}, act{kind: end}).run(t)
		if b.real.Epochs.Limbo() != 0 || b.real.Epochs.Now() != 1 || b.real.Epochs.Said(0) != -1 || b.real.Epochs.Said(1) != -1 {
			t.Errorf("P8.2: task of thread %d: %d wait, epoch %d", me, b.real.Epochs.Limbo(), b.real.Epochs.Now())
		}
		b.close(t)
	}
}
