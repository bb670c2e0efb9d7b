package epoch

import (
	"math"
	"math/big"
	"math/rand"
	"testing"

	"boscage/ref"
)

// left is a node that waits, as the chapter's words say it.
type left struct {
	node ref.Ref
	at   int64
}

// plain is epochs as the chapter's words say them: the epoch, what each announced, a list for each.
type plain struct {
	now   int64
	said  []int64
	lists [][]left
}

func newPlain(threads int) *plain {
	p := &plain{}
	for range threads {
		p.said = append(p.said, -1)
		p.lists = append(p.lists, nil)
	}
	return p
}

func (p *plain) has(t int) bool {
	return t >= 0 && t < len(p.said)
}

func (p *plain) swap(old int64) bool {
	if old != p.now {
		return false
	}
	p.now = p.now + 1
	return true
}

func (p *plain) say(t int, n int64) {
	if p.has(t) {
		p.said[t] = n
	}
}

func (p *plain) leave(t int, node ref.Ref, at int64) {
	if p.has(t) {
		p.lists[t] = append(p.lists[t], left{node, at})
	}
}

func (p *plain) ready(t int, now int64) ref.Ref {
	if !p.has(t) || len(p.lists[t]) == 0 || !above(now, p.lists[t][0].at) {
		return 0
	}
	node := p.lists[t][0].node
	p.lists[t] = p.lists[t][1:]
	return node
}

func (p *plain) limbo() int {
	n := 0
	for _, l := range p.lists {
		n += len(l)
	}
	return n
}

// above: is now by 3, or more, above at? In numbers that have no end.
func above(now, at int64) bool {
	d := new(big.Int).Sub(big.NewInt(now), big.NewInt(at))
	return d.Cmp(big.NewInt(3)) >= 0
}

// others are numbers that aren't threads', where there are n.
func others(n int) []int {
	return []int{-1, -2, -3, -n - 1, -64, -65, -1 << 32, math.MinInt64, math.MinInt64 + 1, n, n + 1, n + 64, n + 1<<16, n + 1<<32, 1 << 32, 1 << 40, math.MaxInt64 - n, math.MaxInt64 - 1, math.MaxInt64}
}

// numbers are epochs, those too that no world comes to.
func numbers() []int64 {
	return []int64{
		math.MinInt64, math.MinInt64 + 1, math.MinInt64 + 2, math.MinInt64 + 3, math.MinInt64 + 4, math.MinInt64 + 5, math.MinInt64 + 6,
		-1 << 32, -7, -4, -3, -2, -1, 0, 1, 2, 3, 4, 5, 6, 7, 100, 1 << 31, 1 << 32, 1<<32 + 3,
		math.MaxInt64 - 6, math.MaxInt64 - 5, math.MaxInt64 - 4, math.MaxInt64 - 3, math.MaxInt64 - 2, math.MaxInt64 - 1, math.MaxInt64,
	}
}

// check holds all that is told without a change against p, of numbers that are no thread's too.
func (p *plain) check(t *testing.T, e *Epochs) {
	t.Helper()
	if e.Now() != p.now {
		t.Errorf("P7.1: Now is %d, not %d", e.Now(), p.now)
	}
	if e.Len() != len(p.said) {
		t.Errorf("P7.1: Len is %d, not %d", e.Len(), len(p.said))
	}
	for i, n := range p.said {
		if got := e.Said(i); got != n {
			t.Errorf("P7.1: Said(%d) of %d is %d, not %d", i, len(p.said), got, n)
		}
	}
	for _, i := range others(len(p.said)) {
		if got := e.Said(i); got != -1 {
			t.Errorf("P7.1: Said(%d) of %d is %d, not -1", i, len(p.said), got)
		}
	}
	if e.Limbo() != p.limbo() {
		t.Errorf("P7.2: Limbo is %d, not %d", e.Limbo(), p.limbo())
	}
}

// ready asks both, and expects the same answer and the same lists behind it.
func ready(t *testing.T, e *Epochs, p *plain, i int, now int64) ref.Ref {
	t.Helper()
	want := p.ready(i, now)
	got := e.Ready(i, now)
	if got != want {
		t.Errorf("P7.2: Ready(%d, %d) is %d, not %d", i, now, got, want)
	}
	p.check(t, e)
	return got
}

// leave does it to both.
func leave(t *testing.T, e *Epochs, p *plain, i int, node ref.Ref, at int64) {
	t.Helper()
	e.Leave(i, node, at)
	p.leave(i, node, at)
	p.check(t, e)
}

// drained takes all that waits, and so holds the order against p.
func drained(t *testing.T, e *Epochs, p *plain) {
	t.Helper()
	for i := range p.said {
		for range len(p.lists[i]) + 1 {
			ready(t, e, p, i, math.MaxInt64)
		}
	}
}

func TestGrace(t *testing.T) {
	if Grace != 3 {
		t.Errorf("P7.2: Grace is %d", Grace)
	}
}

func TestExamples(t *testing.T) {
	e := New(1)
	e.Leave(0, 77, 2)
	e.Leave(0, 78, 0)
	if got := e.Ready(0, 4); got != 0 {
		t.Errorf("P7.2: a node that went in epoch 2 is ready in 4: %d", got)
	}
	if a, b, c := e.Ready(0, 5), e.Ready(0, 5), e.Ready(0, 5); a != 77 || b != 78 || c != 0 {
		t.Errorf("P7.2: in epoch 5 nodes %d, %d, %d are ready, not 77, 78, 0", a, b, c)
	}
}

func TestNewOfSoManyThreads(t *testing.T) {
	for _, c := range []struct{ asked, threads int }{
		{math.MinInt64, 0}, {-1 << 32, 0}, {-64, 0}, {-2, 0}, {-1, 0}, {0, 0}, {1, 1}, {2, 2}, {7, 7}, {63, 63}, {64, 64},
		{65, 64}, {66, 64}, {100, 64}, {128, 64}, {1 << 32, 64}, {1<<32 + 1, 64}, {math.MaxInt64, 64},
	} {
		e, p := New(c.asked), newPlain(c.threads)
		p.check(t, e)
		// Each of them is a thread, that announces and lets nodes go.
		for i := range c.threads {
			e.Say(i, int64(i))
			p.say(i, int64(i))
			leave(t, e, p, i, ref.Ref(i+1), int64(i))
		}
		drained(t, e, p)
	}
}

func TestSwapOfTheEpochAlone(t *testing.T) {
	e, p := New(3), newPlain(3)
	for now := range int64(12) {
		for _, old := range append(numbers(), now-2, now-1, now+1, now+2, -now-1, now+1<<32, now+math.MinInt64, ^now) {
			if old == now {
				continue
			}
			if e.Swap(old) {
				t.Errorf("P7.1: Swap(%d) in epoch %d is true", old, now)
			}
			p.check(t, e)
		}
		if !e.Swap(now) || !p.swap(now) {
			t.Errorf("P7.1: Swap(%d) is false, in that epoch", now)
		}
		p.check(t, e)
		if e.Swap(now) {
			t.Errorf("P7.1: Swap(%d) once more is true", now)
		}
		p.check(t, e)
	}
}

func TestSwapChangesTheEpochAlone(t *testing.T) {
	e, p := New(2), newPlain(2)
	e.Say(0, 0)
	p.say(0, 0)
	leave(t, e, p, 1, 9, 0)
	for now := range int64(1000) {
		if e.Swap(now) != p.swap(now) {
			t.Fatalf("P7.1: Swap(%d) is false", now)
		}
		p.check(t, e)
	}
	// What is ready hangs on the epoch that is asked, not on the one that is.
	ready(t, e, p, 1, 2)
	ready(t, e, p, 1, 3)
}

func TestSayOfEachThreadAlone(t *testing.T) {
	for _, threads := range []int{1, 2, 5, 64} {
		e, p := New(threads), newPlain(threads)
		for i := range threads {
			for _, n := range numbers() {
				e.Say(i, n)
				p.say(i, n)
				p.check(t, e)
			}
			e.Say(i, int64(100+i))
			p.say(i, int64(100+i))
		}
		p.check(t, e)
		for i := range threads {
			e.Say(i, -1)
			p.say(i, -1)
			p.check(t, e)
		}
	}
}

func TestSayOfNoThreadChangesNothing(t *testing.T) {
	for _, threads := range []int{-3, 0, 1, 2, 63, 64, 65} {
		n := min(max(threads, 0), 64)
		e, p := New(threads), newPlain(n)
		for i := range n {
			e.Say(i, int64(i+5))
			p.say(i, int64(i+5))
		}
		for _, i := range others(n) {
			for _, said := range []int64{0, 1, 7, -1, math.MaxInt64, math.MinInt64} {
				e.Say(i, said)
				p.check(t, e)
			}
		}
	}
}

func TestReadyInJustTheEpochsThatAreByGraceAbove(t *testing.T) {
	for _, at := range numbers() {
		for _, now := range numbers() {
			e, p := New(1), newPlain(1)
			leave(t, e, p, 0, 5, at)
			want := ref.Ref(0)
			if above(now, at) {
				want = 5
			}
			if got := e.Ready(0, now); got != want {
				t.Errorf("P7.2: what went in %d is %d in %d, not %d", at, got, now, want)
			}
			p.ready(0, now)
			p.check(t, e)
			// A node that wasn't ready waits; one that was isn't there any more.
			ready(t, e, p, 0, now)
			ready(t, e, p, 0, math.MaxInt64)
		}
	}
}

func TestReadyEpochByEpoch(t *testing.T) {
	for at := int64(-20); at <= 20; at++ {
		e, p := New(1), newPlain(1)
		leave(t, e, p, 0, 5, at)
		for now := at - 5; now < at+3; now++ {
			if ready(t, e, p, 0, now) != 0 {
				t.Errorf("P7.2: what went in %d is ready in %d", at, now)
			}
		}
		if ready(t, e, p, 0, at+3) != 5 {
			t.Errorf("P7.2: what went in %d isn't ready in %d", at, at+3)
		}
		if ready(t, e, p, 0, at+3) != 0 || ready(t, e, p, 0, at+100) != 0 {
			t.Errorf("P7.2: what went in %d is ready twice", at)
		}
	}
}

func TestNodesComeInTheOrderInWhichTheyWent(t *testing.T) {
	for _, ats := range [][]int64{
		{0, 0, 0}, {1, 2, 3}, {3, 2, 1}, {5, 0, 9, 0}, {-4, 7, -9, 7, 7, 1}, {math.MaxInt64, 0}, {math.MaxInt64 - 3, math.MinInt64, 4},
		{math.MinInt64, math.MaxInt64, math.MinInt64}, {0, math.MaxInt64 - 2, 0, 0},
	} {
		e, p := New(2), newPlain(2)
		for i, at := range ats {
			leave(t, e, p, 1, ref.Ref(10+i), at)
		}
		for _, now := range numbers() {
			for range len(ats) + 1 {
				ready(t, e, p, 1, now)
			}
		}
	}
}

func TestTheFirstHoldsUpThoseBehindIt(t *testing.T) {
	e, p := New(1), newPlain(1)
	for i := range 20 {
		leave(t, e, p, 0, ref.Ref(i+1), int64(20-i))
	}
	for range 5 {
		if ready(t, e, p, 0, 22) != 0 {
			t.Error("P7.2: one is ready ahead of the first")
		}
	}
	if e.Limbo() != 20 {
		t.Errorf("P7.2: Limbo is %d, not 20", e.Limbo())
	}
	for i := range 20 {
		if got := ready(t, e, p, 0, 23); got != ref.Ref(i+1) {
			t.Errorf("P7.2: %d is ready, not %d", got, i+1)
		}
	}
}

func TestAnyNodeMayGo(t *testing.T) {
	// The same one twice, and numbers that are no references: 0 too, which waits as the others do.
	e, p := New(1), newPlain(1)
	for _, node := range []ref.Ref{5, 5, 0, -1, math.MinInt64, math.MaxInt64, 1<<40 + 1, 0, 5} {
		leave(t, e, p, 0, node, 4)
	}
	ready(t, e, p, 0, 6)
	drained(t, e, p)
	if e.Limbo() != 0 {
		t.Errorf("P7.2: Limbo is %d, not 0", e.Limbo())
	}
}

func TestThreadsNodesAreApart(t *testing.T) {
	for _, threads := range []int{2, 3, 64} {
		e, p := New(threads), newPlain(threads)
		for k := range 3 {
			for i := range threads {
				leave(t, e, p, i, ref.Ref(100*k+i+1), int64(10-i))
			}
		}
		// The first of one doesn't hold up another's.
		for i := range threads {
			ready(t, e, p, i, 12)
		}
		for now := range int64(15) {
			ready(t, e, p, threads-1, now)
		}
		drained(t, e, p)
	}
}

func TestLeaveAndReadyOfNoThread(t *testing.T) {
	for _, threads := range []int{-3, 0, 1, 2, 63, 64, 65} {
		n := min(max(threads, 0), 64)
		e, p := New(threads), newPlain(n)
		for i := range n {
			leave(t, e, p, i, ref.Ref(i+1), 0)
		}
		for _, i := range others(n) {
			e.Leave(i, 99, 0)
			p.check(t, e)
			for _, now := range []int64{math.MinInt64, -1, 0, 3, 100, math.MaxInt64} {
				if got := e.Ready(i, now); got != 0 {
					t.Errorf("P7.2: Ready(%d, %d) of %d threads is %d", i, now, n, got)
				}
				p.check(t, e)
			}
		}
		drained(t, e, p)
	}
}

func TestAnnouncementsDoNotHoldUpReady(t *testing.T) {
	e, p := New(2), newPlain(2)
	for i := range 2 {
		e.Say(i, 0)
		p.say(i, 0)
	}
	leave(t, e, p, 0, 5, 0)
	if ready(t, e, p, 0, 3) != 5 {
		t.Error("P7.2: what went in 0 isn't ready in 3, where threads announced 0")
	}
}

func TestLimboGrowsAndShrinks(t *testing.T) {
	e, p := New(3), newPlain(3)
	n := 0
	for round := range 50 {
		for i := range 3 {
			for range round % 4 {
				leave(t, e, p, i, ref.Ref(n+1), int64(round))
				n++
			}
			if ready(t, e, p, i, int64(round)) != 0 {
				n--
			}
			if e.Limbo() != n {
				t.Errorf("P7.2: Limbo is %d, not %d", e.Limbo(), n)
			}
		}
	}
	drained(t, e, p)
}

func TestManyNodes(t *testing.T) {
	e := New(2)
	for i := range 1 << 17 {
		e.Leave(1, ref.Ref(i+1), int64(i/1000))
	}
	for i := range 1 << 17 {
		if e.Limbo() != 1<<17-i {
			t.Fatalf("P7.2: Limbo is %d, not %d", e.Limbo(), 1<<17-i)
		}
		if got := e.Ready(1, int64(i/1000)+2); got != 0 {
			t.Fatalf("P7.2: %d is ready too early", got)
		}
		if got := e.Ready(1, int64(i/1000)+3); got != ref.Ref(i+1) {
			t.Fatalf("P7.2: %d is ready, not %d", got, i+1)
		}
	}
	if e.Ready(1, math.MaxInt64) != 0 || e.Limbo() != 0 {
		t.Error("P7.2: nodes wait that are freed")
	}
}

func TestEpochsAreApart(t *testing.T) {
	a, p := New(2), newPlain(2)
	b, q := New(2), newPlain(2)
	a.Swap(0)
	p.swap(0)
	a.Say(0, 5)
	p.say(0, 5)
	leave(t, a, p, 1, 7, 1)
	q.check(t, b)
	leave(t, b, q, 1, 8, 0)
	p.check(t, a)
	drained(t, a, p)
	drained(t, b, q)
}

func TestNilEpochs(t *testing.T) {
	var e *Epochs
	for range 2 {
		for _, n := range numbers() {
			if e.Swap(n) {
				t.Errorf("R7: Swap(%d) of nil is true", n)
			}
			if e.Now() != 0 || e.Len() != 0 || e.Limbo() != 0 {
				t.Errorf("R7: Now, Len, Limbo of nil are %d, %d, %d", e.Now(), e.Len(), e.Limbo())
			}
			for _, i := range append(others(0), 0, 1, 63, 64) {
				e.Say(i, n)
				e.Leave(i, 5, n)
				if e.Said(i) != -1 {
					t.Errorf("P7.1: Said(%d) of nil is %d, not -1", i, e.Said(i))
				}
				if got := e.Ready(i, n); got != 0 {
					t.Errorf("R7: Ready(%d, %d) of nil is %d", i, n, got)
				}
			}
		}
	}
}

// near is mostly a number close to now, or else one far away.
func near(g *rand.Rand, now int64) int64 {
	if g.Intn(10) == 0 {
		l := numbers()
		return l[g.Intn(len(l))]
	}
	return now + int64(g.Intn(9)) - 4
}

// someThread is mostly a thread's number.
func someThread(g *rand.Rand, n int) int {
	if g.Intn(8) == 0 {
		l := others(n)
		return l[g.Intn(len(l))]
	}
	return g.Intn(n + 1)
}

func TestCallsInARow(t *testing.T) {
	for seed := range int64(80) {
		g := rand.New(rand.NewSource(seed))
		threads := g.Intn(6)
		e, p := New(threads), newPlain(threads)
		for k := range 300 {
			i, n := someThread(g, threads), near(g, p.now)
			switch g.Intn(7) {
			case 0:
				if e.Swap(n) != p.swap(n) {
					t.Errorf("P7.1: Swap(%d) is not as it should be in %d", n, p.now)
				}
			case 1:
				e.Say(i, n)
				p.say(i, n)
			case 2, 3, 4:
				leave(t, e, p, i, ref.Ref(k+1), n)
			case 5, 6:
				ready(t, e, p, i, n)
			}
			p.check(t, e)
		}
		drained(t, e, p)
		if t.Failed() {
			t.Fatalf("P7.2: calls in a row, seed %d", seed)
		}
	}
}
