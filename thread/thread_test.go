package thread

import (
	"math"
	"math/rand"
	"slices"
	"testing"
)

// is expects where x is: at its end or not, how many touches were done, what it came to.
func is(t *testing.T, what string, x *Thread, done bool, steps int, out ...int64) {
	t.Helper()
	if x.Done() != done || x.Steps() != steps || !slices.Equal(x.Out(), out) {
		t.Errorf("P6.2: %s: Done %t, Steps %d, Out %v; not %t, %d, %v", what, x.Done(), x.Steps(), x.Out(), done, steps, out)
	}
}

// step is a Step, whose answer is expected.
func step(t *testing.T, what string, x *Thread, want bool) {
	t.Helper()
	if got := x.Step(); got != want {
		t.Errorf("P6.1: %s: Step is %t", what, got)
	}
}

// diary is what was done, in order.
type diary []int

func (d *diary) is(t *testing.T, what string, want ...int) {
	t.Helper()
	if !slices.Equal(*d, want) {
		t.Errorf("P6.1: %s: touches done are %v, not %v", what, *d, want)
	}
}

// noting is a touch that is written into the diary, and tells told.
func (d *diary) noting(n int, told int64) func() int64 {
	return func() int64 {
		*d = append(*d, n)
		return told
	}
}

// asking is likewise, yes or no.
func (d *diary) asking(n int, told bool) func() bool {
	return func() bool {
		*d = append(*d, n)
		return told
	}
}

// many is an operation of n touches, each noted; it answers what they told.
func (d *diary) many(n int) *Thread {
	return New(func(x *Thread) []int64 {
		var out []int64
		for i := range n {
			out = append(out, x.Do(d.noting(i, int64(10*i))))
		}
		return out
	})
}

func TestExample(t *testing.T) {
	var d diary
	x := d.many(2)
	is(t, "ahead of the first Step", x, false, 0)
	step(t, "the first", x, false)
	is(t, "behind the first", x, false, 1)
	d.is(t, "behind the first", 0)
	step(t, "the second", x, true)
	is(t, "behind the second", x, true, 2, 0, 10)
	d.is(t, "behind the second", 0, 1)
}

func TestOneTouchAStepInOrderEachOnce(t *testing.T) {
	for n := 1; n <= 40; n++ {
		var d diary
		var want []int
		var out []int64
		x := d.many(n)
		for i := range n {
			is(t, "ahead of a Step", x, false, i)
			step(t, "a Step", x, i == n-1)
			want, out = append(want, i), append(out, int64(10*i))
			d.is(t, "behind a Step", want...)
		}
		is(t, "at its end", x, true, n, out...)
	}
}

func TestNewBeginsNothing(t *testing.T) {
	gone := 0
	x := New(func(x *Thread) []int64 {
		gone++
		x.Do(func() int64 { gone += 100; return 0 })
		return nil
	})
	is(t, "not begun", x, false, 0)
	if gone != 0 {
		t.Errorf("P6.1: New has begun its work: %d", gone)
	}
	step(t, "its Step", x, true)
	if gone != 101 {
		t.Errorf("P6.1: its Step did %d, not 101", gone)
	}
}

func TestWorkGoesOnUpToTheNextTouch(t *testing.T) {
	// What stands between two touches is told to the world here as a touch isn't, so that one sees how far work came.
	far := 0
	x := New(func(x *Thread) []int64 {
		far = 1
		x.Do(func() int64 { return 0 })
		far = 2
		x.Ask(func() bool { return true })
		far = 3
		return nil
	})
	for i, want := range []int{2, 3} {
		step(t, "a Step", x, i == 1)
		if far != want {
			t.Errorf("P6.1: behind Step %d work came to %d, not %d", i+1, far, want)
		}
	}
}

func TestWorkWithoutATouch(t *testing.T) {
	for _, out := range [][]int64{nil, {}, {7}, {1, 2, 3}} {
		gone := 0
		x := New(func(*Thread) []int64 {
			gone++
			return out
		})
		is(t, "ahead of the first Step", x, false, 0)
		for range 4 {
			step(t, "without a touch", x, true)
			is(t, "without a touch", x, true, 0, out...)
		}
		if gone != 1 {
			t.Errorf("P6.1: work at its end was gone through %d times", gone)
		}
	}
}

func TestWorkThatIsNilAndNilThread(t *testing.T) {
	for _, x := range []*Thread{New(nil), nil, new(Thread)} {
		for range 3 {
			is(t, "work that is nil", x, true, 0)
			touched := false
			if x.Do(func() int64 { touched = true; return 5 }) != 0 || x.Ask(func() bool { touched = true; return true }) || x.Do(nil) != 0 || x.Ask(nil) || touched {
				t.Errorf("P6.1: Do or Ask where work is nil: %t", touched)
			}
			step(t, "work that is nil", x, true)
		}
		is(t, "work that is nil", x, true, 0)
	}
	if New(nil) == nil {
		t.Error("P6.1: New(nil) is no thread")
	}
}

func TestStepAtItsEndDoesNothing(t *testing.T) {
	var d diary
	gone := 0
	x := New(func(x *Thread) []int64 {
		gone++
		a := x.Do(d.noting(1, 11))
		if x.Ask(d.asking(2, true)) {
			a++
		}
		return []int64{a, 3}
	})
	step(t, "the first", x, false)
	step(t, "the second", x, true)
	was := gone
	for range 5 {
		step(t, "at its end", x, true)
		is(t, "at its end", x, true, 2, 12, 3)
		d.is(t, "at its end", 1, 2)
	}
	if gone != was {
		t.Errorf("P6.1: at its end work is gone through: %d, not %d", gone, was)
	}
}

func TestDoTellsWhatTouchTells(t *testing.T) {
	edges := []int64{0, 1, -1, 2, -2, math.MinInt64, math.MinInt64 + 1, math.MaxInt64, math.MaxInt64 - 1, 1 << 32, -1 << 32, math.MinInt32, math.MaxInt32, 255, 256}
	x := New(func(x *Thread) []int64 {
		var out []int64
		for i := range edges {
			out = append(out, x.Do(func() int64 { return edges[i] }))
		}
		return out
	})
	for i := range edges {
		step(t, "an edge", x, i == len(edges)-1)
	}
	is(t, "edges", x, true, len(edges), edges...)
	for _, e := range edges {
		one := New(func(x *Thread) []int64 { return []int64{x.Do(func() int64 { return e })} })
		step(t, "one edge", one, true)
		is(t, "one edge", one, true, 1, e)
	}
}

func TestAskTellsYesOrNo(t *testing.T) {
	told := []bool{true, false, false, true, true, true, false}
	x := New(func(x *Thread) []int64 {
		var out []int64
		for i := range told {
			if x.Ask(func() bool { return told[i] }) {
				out = append(out, int64(i))
			}
		}
		return out
	})
	for i := range told {
		step(t, "an Ask", x, i == len(told)-1)
	}
	is(t, "asked", x, true, len(told), 0, 3, 4, 5)
}

func TestTouchesTellWhatOthersChangedBetweenSteps(t *testing.T) {
	cell, gate := int64(1), false
	x := New(func(x *Thread) []int64 {
		var out []int64
		for range 3 {
			out = append(out, x.Do(func() int64 { cell++; return cell }))
			if x.Ask(func() bool { return gate }) {
				out = append(out, -1)
			}
		}
		return out
	})
	for i, c := range []struct {
		cell int64
		gate bool
		now  int64
	}{{5, true, 6}, {5, true, 5}, {-9, true, -8}, {0, false, 0}, {math.MaxInt64, true, math.MinInt64}, {7, true, 7}} {
		cell, gate = c.cell, c.gate
		step(t, "between changes", x, i == 5)
		if cell != c.now {
			t.Errorf("P6.1: behind Step %d the cell is %d, not %d", i+1, cell, c.now)
		}
	}
	// What is changed behind a touch doesn't change what it told.
	is(t, "between changes", x, true, 6, 6, -1, -8, math.MinInt64, -1)
}

func TestWhatATouchToldDecidesWhichIsNext(t *testing.T) {
	for _, c := range []struct {
		first  int64
		second bool
		done   []int
		out    int64
	}{
		{0, true, []int{1, 3, 5, 6}, 30},
		{0, false, []int{1, 3, 6}, 20},
		{4, true, []int{1, 2, 2, 2, 2, 3, 5, 6}, 30},
		{1, false, []int{1, 2, 3, 6}, 20},
		{-1, true, []int{1}, -1},
	} {
		var d diary
		x := New(func(x *Thread) []int64 {
			n := x.Do(d.noting(1, c.first))
			if n < 0 {
				return []int64{n}
			}
			for range n {
				x.Ask(d.asking(2, false))
			}
			out := int64(20)
			if x.Ask(d.asking(3, c.second)) {
				out = x.Do(d.noting(5, 30))
			}
			x.Do(d.noting(6, 0))
			return []int64{out}
		})
		for i := range c.done {
			step(t, "a choice", x, i == len(c.done)-1)
			d.is(t, "a choice", c.done[:i+1]...)
		}
		is(t, "a choice", x, true, len(c.done), c.out)
	}
}

func TestNilTouchIsNoTouch(t *testing.T) {
	var d diary
	x := New(func(x *Thread) []int64 {
		var out []int64
		nils := func() {
			out = append(out, x.Do(nil))
			if x.Ask(nil) {
				out = append(out, 99)
			}
		}
		nils()
		out = append(out, x.Do(d.noting(1, 41)))
		nils()
		nils()
		if x.Ask(d.asking(2, true)) {
			out = append(out, 42)
		}
		nils()
		return out
	})
	step(t, "nil touches", x, false)
	is(t, "nil touches", x, false, 1)
	d.is(t, "nil touches", 1)
	step(t, "nil touches", x, true)
	is(t, "nil touches", x, true, 2, 0, 41, 0, 0, 42, 0)
	d.is(t, "nil touches", 1, 2)
}

func TestWorkOfNilTouchesAlone(t *testing.T) {
	x := New(func(x *Thread) []int64 {
		if x.Ask(nil) {
			return []int64{9}
		}
		return []int64{x.Do(nil), 8}
	})
	step(t, "nil touches alone", x, true)
	is(t, "nil touches alone", x, true, 0, 0, 8)
}

// outside calls Do and Ask where no Step is under way.
func outside(t *testing.T, what string, x *Thread) {
	t.Helper()
	touched := 0
	done, steps, out := x.Done(), x.Steps(), x.Out()
	for range 3 {
		if got := x.Do(func() int64 { touched++; return 5 }); got != 0 {
			t.Errorf("P6.1: %s: Do outside of a Step is %d", what, got)
		}
		if x.Ask(func() bool { touched++; return true }) {
			t.Errorf("P6.1: %s: Ask outside of a Step is true", what)
		}
		if x.Do(nil) != 0 || x.Ask(nil) {
			t.Errorf("P6.1: %s: a nil touch outside of a Step", what)
		}
	}
	if touched != 0 {
		t.Errorf("P6.1: %s: %d touches outside of a Step", what, touched)
	}
	is(t, what, x, done, steps, out...)
}

func TestDoAndAskOutsideOfAStep(t *testing.T) {
	for n := range 6 {
		var d diary
		x := d.many(n)
		var want []int
		var out []int64
		for i := range n {
			outside(t, "ahead of a Step", x)
			step(t, "a Step", x, i == n-1)
			want, out = append(want, i), append(out, int64(10*i))
			d.is(t, "a Step", want...)
		}
		if n == 0 {
			outside(t, "ahead of the only Step", x)
			step(t, "the only Step", x, true)
		}
		for range 2 {
			outside(t, "at its end", x)
			step(t, "at its end", x, true)
		}
		is(t, "at its end", x, true, n, out...)
	}
	outside(t, "work that is nil", New(nil))
	outside(t, "a nil thread", nil)
}

func TestOutIsNoneTillTheEnd(t *testing.T) {
	long := make([]int64, 5000)
	for i := range long {
		long[i] = int64(i*i) - 77
	}
	for _, answer := range [][]int64{nil, {}, {0}, {0, 0, 0}, {math.MinInt64, math.MaxInt64, -1}, long} {
		x := New(func(x *Thread) []int64 {
			x.Do(func() int64 { return 1 })
			x.Do(func() int64 { return 2 })
			return slices.Clone(answer)
		})
		is(t, "ahead", x, false, 0)
		step(t, "the first", x, false)
		is(t, "between", x, false, 1)
		step(t, "the second", x, true)
		for range 2 {
			is(t, "the end", x, true, 2, answer...)
		}
	}
}

// spoil changes a list, and the room behind it.
func spoil(l []int64) {
	l = l[:cap(l)]
	for i := range l {
		l[i] = -999
	}
}

func TestOutIsNewMemory(t *testing.T) {
	x := New(func(x *Thread) []int64 { return []int64{x.Do(func() int64 { return 4 }), 5, 6} })
	step(t, "its Step", x, true)
	a := x.Out()
	b := x.Out()
	spoil(a)
	if !slices.Equal(b, []int64{4, 5, 6}) {
		t.Errorf("R6: one Out shares memory with another: %v", b)
	}
	_ = append(b, 7)
	is(t, "what Out told was changed", x, true, 1, 4, 5, 6)
	step(t, "once more", x, true)
	is(t, "once more", x, true, 1, 4, 5, 6)
}

func TestWhatWorkAnsweredIsNeitherKeptNorChanged(t *testing.T) {
	whole := []int64{1, 2, 3, 4, 5, 6}
	x := New(func(x *Thread) []int64 {
		x.Do(func() int64 { return 0 })
		return whole[1:3]
	})
	step(t, "its Step", x, true)
	spoil(x.Out())
	_ = append(x.Out(), 50)
	if !slices.Equal(whole, []int64{1, 2, 3, 4, 5, 6}) {
		t.Errorf("R6: what work answered was changed: %v", whole)
	}
	spoil(whole)
	is(t, "what work answered is changed later", x, true, 1, 2, 3)
}

func TestThreadsAreApart(t *testing.T) {
	// The same work, handed to two threads, is two operations.
	n := int64(0)
	work := func(x *Thread) []int64 {
		return []int64{x.Do(func() int64 { n++; return n }), x.Do(func() int64 { n += 10; return n })}
	}
	a, b := New(work), New(work)
	step(t, "a", a, false)
	is(t, "b", b, false, 0)
	step(t, "b", b, false)
	step(t, "b", b, true)
	is(t, "a", a, false, 1)
	step(t, "a", a, true)
	is(t, "a", a, true, 2, 1, 22)
	is(t, "b", b, true, 2, 2, 12)
}

// orders are all orders in which threads with so many Steps each may go on.
func orders(left []int) [][]int {
	var all [][]int
	some := false
	for i := range left {
		if left[i] == 0 {
			continue
		}
		some = true
		left[i]--
		for _, rest := range orders(left) {
			all = append(all, append([]int{i}, rest...))
		}
		left[i]++
	}
	if !some {
		return [][]int{nil}
	}
	return all
}

func TestSeveralOnOneCellInAnyOrder(t *testing.T) {
	// Each reads the cell, then writes one more than that: two touches, between which others may come.
	for _, order := range orders([]int{4, 2, 4}) {
		cell, want := int64(0), int64(0)
		times := []int{2, 1, 2}
		var threads []*Thread
		for i := range times {
			threads = append(threads, New(func(x *Thread) []int64 {
				var out []int64
				for range times[i] {
					was := x.Do(func() int64 { return cell })
					x.Do(func() int64 { cell = was + 1; return 0 })
					out = append(out, was)
				}
				return out
			}))
		}
		far, reads := make([]int, 3), make([][]int64, 3)
		for _, i := range order {
			far[i]++
			if far[i]%2 == 1 {
				reads[i] = append(reads[i], want)
			} else {
				want = reads[i][len(reads[i])-1] + 1
			}
			step(t, "one of several", threads[i], far[i] == 2*times[i])
			if cell != want {
				t.Fatalf("P6.1: in order %v the cell is %d, not %d", order, cell, want)
			}
			for j, x := range threads {
				if x.Steps() != far[j] || x.Done() != (far[j] == 2*times[j]) {
					t.Fatalf("P6.2: in order %v thread %d has %d Steps, not %d", order, j, x.Steps(), far[j])
				}
			}
		}
		for j, x := range threads {
			is(t, "one of several", x, true, 2*times[j], reads[j]...)
		}
	}
}

func TestTouchMayStepAnotherThread(t *testing.T) {
	var d diary
	b := d.many(3)
	a := New(func(x *Thread) []int64 {
		n := int64(0)
		for !x.Ask(b.Step) {
			n++
		}
		return []int64{n, x.Do(d.noting(100, 8))}
	})
	for i := range 4 {
		step(t, "a Step that is another's", a, i == 3)
		is(t, "a Step that is another's", b, i >= 2, min(i+1, 3), b.Out()...)
	}
	d.is(t, "a Step that is another's", 0, 1, 2, 100)
	is(t, "the other", b, true, 3, 0, 10, 20)
	is(t, "the one", a, true, 4, 2, 8)
}

// act is one line of a small program: a touch of a cell, or a nil one, or a jump that hangs on what was told.
type act struct {
	kind, cell, to int
	n              int64
}

const (
	actAdd = iota
	actGet
	actAbove
	actNil
	actBack
	actKinds
)

func acts(g *rand.Rand) []act {
	var l []act
	for range g.Intn(12) {
		l = append(l, act{kind: g.Intn(actKinds), cell: g.Intn(2), to: g.Intn(len(l) + 1), n: int64(g.Intn(7) - 3)})
	}
	return l
}

// runner is a program as it goes on by itself: where it is, what it was told.
type runner struct {
	acts  []act
	pc    int
	backs int
	out   []int64
}

// touch does the act where the runner is: what it tells; false, if that is no touch.
func touch(a act, cells []int64) (int64, bool) {
	switch a.kind {
	case actAdd:
		cells[a.cell] += a.n
		return cells[a.cell], true
	case actGet:
		return cells[a.cell], true
	case actAbove:
		if cells[a.cell] > a.n {
			return 1, true
		}
		return 0, true
	}
	return 0, false
}

// onward goes on with what the act told.
func (r *runner) onward(told int64) {
	a := r.acts[r.pc]
	r.out = append(r.out, told)
	r.pc++
	if a.kind == actBack && r.backs < 3 && r.out[len(r.out)/2]%2 != 0 {
		r.backs++
		r.pc = a.to
	}
	if a.kind == actAbove && told == 1 {
		r.pc++
	}
}

// rest goes on as far as it comes without a touch; true at its end.
func (r *runner) rest() bool {
	for r.pc < len(r.acts) {
		if k := r.acts[r.pc].kind; k != actNil && k != actBack {
			return false
		}
		r.onward(0)
	}
	return true
}

// work is the program, done by a thread.
func work(acts []act, cells []int64) func(*Thread) []int64 {
	return func(x *Thread) []int64 {
		r := runner{acts: acts}
		for r.pc < len(acts) {
			a := acts[r.pc]
			told := int64(0)
			switch a.kind {
			case actAbove:
				if x.Ask(func() bool { n, _ := touch(a, cells); return n == 1 }) {
					told = 1
				}
			case actNil:
				told = x.Do(nil)
				if x.Ask(nil) {
					told = 1
				}
			case actAdd, actGet:
				told = x.Do(func() int64 { n, _ := touch(a, cells); return n })
			}
			r.onward(told)
		}
		return r.out
	}
}

func TestPrograms(t *testing.T) {
	for seed := range int64(400) {
		g := rand.New(rand.NewSource(seed))
		cells, plain := make([]int64, 2), make([]int64, 2)
		var threads []*Thread
		var runners []*runner
		for range 1 + g.Intn(4) {
			l := acts(g)
			threads = append(threads, New(work(l, cells)))
			runners = append(runners, &runner{acts: l})
		}
		steps, done := make([]int, len(threads)), make([]bool, len(threads))
		for range 80 {
			i := g.Intn(len(threads))
			r := runners[i]
			if !done[i] {
				if !r.rest() {
					told, _ := touch(r.acts[r.pc], plain)
					r.onward(told)
					steps[i]++
				}
				done[i] = r.rest()
			}
			step(t, "a program", threads[i], done[i])
			if !slices.Equal(cells, plain) {
				t.Errorf("P6.1: cells are %v, not %v", cells, plain)
			}
			for j, x := range threads {
				var out []int64
				if done[j] {
					out = runners[j].out
				}
				is(t, "a program", x, done[j], steps[j], out...)
			}
		}
		if t.Failed() {
			t.Fatalf("P6.1: programs of seed %d", seed)
		}
	}
}

// The document says that work and touches don't do what these do; no call may panic, or go on for ever, even so.

func TestWorkThatPanicsIsAtItsEnd(t *testing.T) {
	var d diary
	for _, what := range []any{"a text", 7, error(nil), nil} {
		d = nil
		x := New(func(x *Thread) []int64 {
			x.Do(d.noting(1, 3))
			x.Do(d.noting(2, 3))
			panic(what)
		})
		step(t, "work that panics", x, false)
		step(t, "work that panics", x, true)
		is(t, "work that panics", x, true, 2)
		step(t, "work that panics", x, true)
		d.is(t, "work that panics", 1, 2)
		outside(t, "work that panics", x)
	}
	y := New(func(x *Thread) []int64 { return []int64{x.Do(func() int64 { panic("a touch") })} })
	step(t, "a touch that panics", y, true)
	outside(t, "a touch that panics", y)
}

func TestWorkThatRecoversByItself(t *testing.T) {
	var d diary
	x := New(func(x *Thread) (out []int64) {
		defer func() { _ = recover() }()
		a := x.Do(d.noting(1, 3))
		b := x.Do(d.noting(2, 4))
		return []int64{a, b, x.Do(d.noting(3, 5))}
	})
	for i := range 3 {
		step(t, "work that recovers", x, i == 2)
	}
	is(t, "work that recovers", x, true, 3, 3, 4, 5)
	d.is(t, "work that recovers", 1, 2, 3)
}

func TestWorkThatDefersATouch(t *testing.T) {
	var d diary
	x := New(func(x *Thread) []int64 {
		defer x.Do(d.noting(3, 0))
		x.Do(d.noting(1, 0))
		return []int64{x.Do(d.noting(2, 9))}
	})
	for i := range 3 {
		step(t, "work that defers", x, i == 2)
	}
	is(t, "work that defers", x, true, 3, 9)
	d.is(t, "work that defers", 1, 2, 3)
}

func TestCallsOfTheThreadWithinItsOwn(t *testing.T) {
	var d diary
	x := New(func(x *Thread) []int64 {
		inside := x.Step()
		told := x.Do(func() int64 {
			if x.Step() || x.Ask(d.asking(8, true)) || x.Done() {
				return -1
			}
			return x.Do(d.noting(9, 5)) + 6
		})
		if inside || x.Step() || x.Done() {
			return []int64{-2}
		}
		return []int64{told, x.Do(d.noting(1, 2))}
	})
	step(t, "calls within", x, false)
	step(t, "calls within", x, true)
	is(t, "calls within", x, true, 2, 6, 2)
	d.is(t, "calls within", 1)
}
