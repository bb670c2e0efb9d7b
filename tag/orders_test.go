package tag

import (
	"crypto/sha256"
	"fmt"
	"math/rand"
	"slices"
	"strings"
	"testing"

	"boscage/thread"
	"boscage/world"
)

// step goes on with one of those that were started; none is held yet.
func (b *both) step(i int) { b.pairs[i].stepUnheld() }

// open are those that aren't at their end.
func (b *both) open() []int {
	var out []int
	for i, p := range b.pairs {
		if !p.ended() {
			out = append(out, i)
		}
	}
	return out
}

// key is all on which it hangs what may come: what stands there, and what each was told.
func (b *both) key() [sha256.Size]byte {
	out := []byte(b.dump(b.twin))
	for _, p := range b.pairs {
		out = append(out, " ; "...)
		for _, told := range p.twin.told {
			out = append(append(out, told...), ',')
		}
	}
	return sha256.Sum256(out)
}

// everyOrder goes through every order in which those that were started may go on; where two orders come to the same, one of them is gone on with: how many places it came by.
func everyOrder(t testing.TB, set func() *both, look, end func(*both)) int {
	t.Helper()
	seen := map[[sha256.Size]byte]bool{}
	todo := [][]int{nil}
	for len(todo) > 0 {
		order := todo[len(todo)-1]
		todo = todo[:len(todo)-1]
		b := set()
		for _, i := range order {
			b.step(i)
		}
		for {
			key := b.key()
			if seen[key] {
				break
			}
			seen[key] = true
			for _, p := range b.pairs {
				p.holdTold(t)
			}
			b.hold(t)
			look(b)
			open := b.open()
			if len(open) == 0 {
				end(b)
				break
			}
			for _, i := range open[1:] {
				todo = append(todo, append(slices.Clone(order), i))
			}
			order = append(slices.Clone(order), open[0])
			b.step(open[0])
		}
		b.noFaults(t)
		b.stop()
	}
	return len(seen)
}

// outs are what all came to.
func (b *both) outs() string {
	out := ""
	for _, p := range b.pairs {
		out += p.out
	}
	return out
}

// doneOf is how many of those that were started were done.
func (b *both) doneOf() int { return strings.Count(b.outs(), isDone) }

// places holds, when all are at their end: the places that are used are those of the tree, of the entry, and of those that wait; whoever was done let go what went, and nobody else did.
func (b *both) places(t testing.TB) {
	t.Helper()
	if used, there, waits := b.real.Arena.Used(), len(spots(b.real)), b.real.Epochs.Limbo(); used != there+1+waits {
		t.Fatalf("P12.1: %d places are used; %d nodes are there, %d wait", used, there+1, waits)
	}
	left := b.holdWaits(t)
	for i, p := range b.pairs {
		if strings.Contains(left, fmt.Sprint(" ", i, ":")) != strings.Contains(p.out, isDone) {
			t.Fatalf("P12.1: thread %d came to %s; there wait%s", i, p.out, left)
		}
	}
}

// TestTwoFixes: two fix the same node: in all orders of their Steps just one is done, each key goes to its leaf behind each touch, and the tree is as if one had been alone.
func TestTwoFixes(t *testing.T) {
	t.Parallel()
	for _, made := range all() {
		n := made()
		alone := newBoth(t, plenty(3), n)
		keys := n.nearby()
		was := lies(t, alone.real, keys)
		before := whole(alone.real)
		alone.run(t, alone.fixing(t, n.named("n")))
		behind := whole(alone.real)
		ends := map[string]int{}
		places := everyOrder(t, func() *both {
			n := made()
			b := newBoth(t, plenty(3), n)
			b.start(b.fixing(t, n.named("n")))
			b.start(b.fixing(t, n.named("n")))
			return b
		}, func(b *both) {
			if got := whole(b.real); got != before && got != behind || !slices.Equal(lies(t, b.real, keys), was) {
				t.Fatalf("P12.1: two fix the same node: %s", got)
			}
		}, func(b *both) {
			ends[b.outs()]++
			if whole(b.real) != behind {
				t.Fatalf("P12.1: two fixed the same node: %s, %s", b.outs(), whole(b.real))
			}
			b.places(t)
		})
		if len(ends) != 2 || ends[isDone+isNeither] == 0 || ends[isNeither+isDone] == 0 || places < 500 {
			t.Errorf("P12.1: two fix the same node: %d places, ends: %v", places, ends)
		}
	}
}

// TestLittleRoom: two fix the same node, with room for the nodes of one and a half, or fewer: whoever has none changes nothing; both may have none.
func TestLittleRoom(t *testing.T) {
	t.Parallel()
	for left := range 6 {
		ends := map[string]int{}
		everyOrder(t, func() *both {
			n := splits()
			b := newBoth(t, setting{3, left, 9}, n)
			b.start(b.fixing(t, n.named("n")))
			b.start(b.fixing(t, n.named("n")))
			return b
		}, func(*both) {}, func(b *both) {
			ends[b.outs()]++
			if done := b.doneOf() == 1; done != (whole(b.real) == "((L10 20 L20) 30 (L30 40 L40))") || b.doneOf() > 1 {
				t.Fatalf("P12.1: %d places are left: %s, %s", left, b.outs(), whole(b.real))
			}
			b.places(t)
		})
		if (ends[isNone+isNone] > 0) != (left < 5) || (ends[isDone+isNeither] > 0) != (left > 2) || (ends[isDone+isNone] > 0) != (2 < left && left < 6) {
			t.Errorf("P12.1: %d places are left: %v", left, ends)
		}
	}
}

// meeting is a Fix of the node n, and what another one does meanwhile; at least one of both is done.
type meeting struct {
	made  func() *tree
	other func(b *both, n *tree) job
	both  bool // may both be done
}

func copies(key int64) func(*both, *tree) job {
	return func(*both, *tree) job { return copyJob(key) }
}

// fixes is a Fix of another node; up is as it stood there at first.
func fixes(t testing.TB, name string) func(*both, *tree) job {
	return func(b *both, n *tree) job { return b.fixing(t, n.named(name)) }
}

func twoTagged() *tree {
	return over("p", wide("m", 10, 2).tag(), wide("n", 30, 2).tag())
}

func oneAbove() *tree {
	return over("h", over("g", over("p", lf(10), wide("n", 20, 2).tag()), wide("q", 40, 1)).tag(), wide("r", 60, 1))
}

func meetings(t testing.TB) []meeting {
	return []meeting{
		// A leaf is changed below the node, beside it, below another node.
		{asRoot, copies(10), true}, {asRoot, copies(20), true},
		{fits, copies(10), true}, {fits, copies(20), true}, {fits, copies(30), true},
		{splits, copies(10), true}, {splits, copies(30), true}, {splits, copies(40), true},
		{deepFits, copies(1), true}, {deepFits, copies(10), true}, {deepFits, copies(20), true},
		{deep, copies(40), true}, {deep, copies(30), true}, {deep, copies(50), true},
		// Another tagged node goes: one below the same node, which is another one then; g itself, where the Fix may have come ahead of that.
		{twoTagged, fixes(t, "m"), false},
		{oneAbove, fixes(t, "g"), true},
	}
}

// TestMeetings: in all orders of their Steps at least one is done, no key's leaf is lost behind any touch, and no change of a leaf.
func TestMeetings(t *testing.T) {
	t.Parallel()
	for i, c := range meetings(t) {
		n := c.made()
		keys := n.nearby()
		was := lies(t, newBoth(t, plenty(3), n).real, keys)
		ends := map[string]int{}
		everyOrder(t, func() *both {
			n := c.made()
			b := newBoth(t, plenty(3), n)
			b.start(b.fixing(t, n.named("n")))
			b.start(c.other(b, n))
			return b
		}, func(b *both) {
			if !slices.Equal(lies(t, b.real, keys), was) {
				t.Fatalf("P12.1: case %d: a key goes to another leaf: %s", i, whole(b.real))
			}
		}, func(b *both) {
			ends[b.outs()]++
			if isCopy := n.named("m") == nil && n.named("h") == nil; isCopy && b.values() != int64(strings.Count(b.pairs[1].out, isDone)) {
				t.Fatalf("P12.1: case %d: a leaf's change is lost: %s, %d", i, b.outs(), b.values())
			}
			b.places(t)
		})
		if ends[isNeither+isNeither] > 0 || ends[isDone+isNeither] == 0 && ends[isDone+isDone] == 0 || (ends[isDone+isDone] > 0) != c.both {
			t.Errorf("P12.1: case %d: ends: %v", i, ends)
		}
	}
}

// values is the sum of all leaves' first values: how often one was changed.
func (b *both) values() int64 {
	sum := int64(0)
	for _, s := range spots(b.real) {
		if n := b.real.Arena.Look(s.ref); !n.Inner {
			sum += n.Pairs[0].Value
		}
	}
	return sum
}

// TestStandsStill: one stands still for ever behind any touch: whoever comes to the same node does it, or brings it to its end, so that the node went behind two times.
func TestStandsStill(t *testing.T) {
	for _, made := range all() {
		for stop := 0; ; stop++ {
			n := made()
			b := newBoth(t, plenty(3), n)
			l, ways := b.loaded(t, n)
			first := b.start(b.fixing(t, n.named("n")))
			for range stop {
				first.step(t)
			}
			if first.ended() {
				break
			}
			out, _ := b.run(t, mendJob(n.named("n").first(), 2))
			// From the first SwapInfo on it is the first one's; behind its Set (each node's SwapInfo, SetAll, each but the first's SetMark, SwapWay, Set) nobody is at the nodes any more.
			took := loads(ways) + makes(n) + 1
			end := took + 2*len(l) + 2
			if stop <= took && !strings.HasPrefix(out, isDone) || took < stop && stop < end-1 && !strings.HasPrefix(out, isNeither) || strings.Contains(out, isNone) {
				t.Errorf("P12.1: one stands still behind %d touches: the other one came to %s", stop, out)
			}
			for _, s := range spots(b.real) {
				if s.ref == n.named("n").ref {
					t.Errorf("P12.1: one stands still behind %d touches: the node is there still in %s", stop, whole(b.real))
				}
			}
			for !first.ended() {
				first.step(t)
			}
			if (first.out == isDone) != (stop > took) {
				t.Errorf("P12.1: one stood still behind %d touches: it came to %s", stop, first.out)
			}
			b.noFaults(t)
			b.stop()
		}
	}
}

// crowd is threads that begin, fix all on the way to some keys, change leaves, and end, again and again, in an order of all kinds.
type crowd struct {
	*both
	r    *rand.Rand
	keys []int64
	now  [4]*pair // what each thread does
	todo [4]int   // how many operations each is to do still
	sum  int64    // how many leaves were changed
}

// doing is an operation from its Begin to its End.
func doing(j job) job {
	return thenJob(
		job{func(t world.Task) string { t.Begin(); return "" }, func(p *twin) string { p.enter(); return "" }},
		j,
		job{func(t world.Task) string { t.End(); return "" }, func(p *twin) string { p.end(); return "" }},
	)
}

// begin is an operation of thread me.
func (c *crowd) begin(me int) {
	key := c.keys[c.r.Intn(len(c.keys))]
	j := mendJob(key, 1+c.r.Intn(3))
	switch c.r.Intn(4) {
	case 0:
		j = copyJob(key)
	case 1:
		j = besideJob(key, c.r.Intn(4))
	}
	c.now[me] = c.startAs(me, doing(j))
	c.todo[me]--
}

// startAs is a job of thread me.
func (b *both) startAs(me int, j job) *pair {
	p := &pair{b: b, twin: &twin{b: b, w: b.twin, me: me}}
	p.twin.start(j.twin)
	p.real = thread.New(func(x *thread.Thread) []int64 {
		p.out = j.real(world.Task{Thread: x, World: b.real, Me: me})
		return nil
	})
	b.pairs = append(b.pairs, p)
	return p
}

// goOn goes on with thread me for a while.
func (c *crowd) goOn(t testing.TB, me int) {
	for range 1 + c.r.Intn(1+c.r.Intn(60)) {
		if c.now[me] == nil && c.todo[me] > 0 {
			c.begin(me)
		}
		p := c.now[me]
		if p == nil {
			return
		}
		p.stepUnheld()
		if p.ended() {
			p.hold(t)
			c.now[me] = nil
		}
	}
}

// active are the threads that have something to do.
func (c *crowd) active() []int {
	var out []int
	for me := range c.now {
		if c.now[me] != nil || c.todo[me] > 0 {
			out = append(out, me)
		}
	}
	return out
}

func holdCrowd(t *testing.T, seed int64, ends map[string]int) {
	t.Helper()
	r := rand.New(rand.NewSource(seed))
	b := 3 + r.Intn(3)
	n := someTree(r, 1+r.Intn(3), 3)
	c := &crowd{both: newBoth(t, setting{b, 300, 900}, n), r: r, keys: n.nearby()}
	was := lies(t, c.real, c.keys)
	for me := range c.todo {
		c.todo[me] = 8
	}
	for l := c.active(); len(l) > 0; l = c.active() {
		// The later ones are seldom chosen, so that they stand still for long.
		c.goOn(t, l[r.Intn(1+r.Intn(len(l)))])
		if !slices.Equal(lies(t, c.real, c.keys), was) {
			t.Fatalf("P12.1: a key goes to another leaf: %s", whole(c.real))
		}
	}
	for _, p := range c.pairs {
		ends[p.out]++
	}
	// All that went is freed, when each thread has begun often enough.
	for range 5 {
		for me := range 4 {
			c.startAs(me, doing(mendJob(0, 0))).run(t)
		}
	}
	if used, there := c.real.Arena.Used(), len(spots(c.real)); used != there+1 || c.real.Epochs.Limbo() != 0 {
		t.Errorf("P12.1: %d places are used; %d nodes are there; %d wait", used, there+1, c.real.Epochs.Limbo())
	}
	c.noFaults(t)
	c.stop()
}

// TestCrowd: orders of many, of which there are too many for all of them; what goes is freed meanwhile.
func TestCrowd(t *testing.T) {
	t.Parallel()
	ends := map[string]int{}
	for seed := range int64(60) {
		holdCrowd(t, seed, ends)
	}
	if ends[isDone] < 100 || ends[isNeither] < 30 || ends[isNeither+isDone] == 0 {
		t.Errorf("P12.1: operations came to %v", ends)
	}
}
