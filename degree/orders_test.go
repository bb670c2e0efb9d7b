package degree

import (
	"crypto/sha256"
	"fmt"
	"math/rand"
	"slices"
	"strings"
	"testing"

	"boscage/world"
)

// open are those that aren't at their end.
func (b *both) open() []int {
	var out []int
	for i, p := range b.pairs {
		if !p.ended() {
			out = append(out, i)
		}
	}
	return out
}

// key is all on which it hangs what may come: what stands there, and what each was told.
func (b *both) key() [sha256.Size]byte {
	out := []byte(b.dump(b.twin))
	for _, p := range b.pairs {
		out = append(out, " ; "...)
		for _, told := range p.twin.told {
			out = append(append(out, told...), ',')
		}
	}
	return sha256.Sum256(out)
}

// places are those that were come by.
type places map[[sha256.Size]byte]bool

// everyOrder goes through every order in which those that were started may go on; where two orders come to the same, one of them is gone on with: how many places it came by.
func everyOrder(t testing.TB, set func() *both, look, end func(*both)) int {
	t.Helper()
	seen := places{}
	todo := [][]int{nil}
	for len(todo) > 0 {
		order := todo[len(todo)-1]
		todo = todo[:len(todo)-1]
		// Most orders come to a place that was come by, which the twins alone tell faster.
		b := set()
		longer, others := b.goOn(order, seen)
		b.stop()
		todo = append(todo, others...)
		if longer != nil {
			set().holdOrder(t, longer, len(order), look, end)
		}
	}
	return len(seen)
}

// goOn goes on with the twins in an order, and then up to a place that was come by, or to the end: the whole order, and those that go another way from there (none, if it comes by no other place).
func (b *both) goOn(order []int, seen places) (longer []int, others [][]int) {
	for _, i := range order {
		b.pairs[i].twin.step()
	}
	last := 0
	if len(order) > 0 {
		last = order[len(order)-1]
	}
	longer = slices.Clone(order)
	for key := b.key(); !seen[key]; key = b.key() {
		seen[key] = true
		open := b.open()
		if len(open) == 0 {
			return longer, others
		}
		// Who went on last goes on, so that one order comes by many places.
		if !slices.Contains(open, last) {
			last = open[0]
		}
		for _, i := range open {
			if i != last {
				others = append(others, append(slices.Clone(longer), i))
			}
		}
		longer = append(longer, last)
		b.pairs[last].twin.step()
	}
	if len(longer) == len(order) {
		return nil, nil
	}
	return longer, others
}

// holdOrder goes on in an order, and holds both against each other from some place on.
func (b *both) holdOrder(t testing.TB, order []int, from int, look, end func(*both)) {
	t.Helper()
	defer b.stop()
	for k := range len(order) + 1 {
		if k > 0 {
			b.pairs[order[k-1]].stepUnheld()
		}
		if k < from {
			continue
		}
		for _, p := range b.pairs {
			p.holdTold(t)
		}
		b.hold(t)
		look(b)
	}
	if len(b.open()) == 0 {
		end(b)
	}
	b.noFaults(t)
}

// outs are what all came to.
func (b *both) outs() string {
	out := ""
	for _, p := range b.pairs {
		out += p.out
	}
	return out
}

// doneOf is how many of those that were started were done.
func (b *both) doneOf() int { return strings.Count(b.outs(), isDone) }

// holdPlaces holds, when all are at their end: the places that are used are those of the tree, of the entry, and of those that wait; whoever was done let go what went, and nobody else did.
func (b *both) holdPlaces(t testing.TB) {
	t.Helper()
	if used, there, waits := b.real.Arena.Used(), len(spots(b.real)), b.real.Epochs.Limbo(); used != there+1+waits {
		t.Fatalf("P13.1: %d places are used; %d nodes are there, %d wait", used, there+1, waits)
	}
	left := b.holdWaits(t)
	for i, p := range b.pairs {
		if strings.Contains(left, fmt.Sprint(" ", i, ":")) != strings.Contains(p.out, isDone) {
			t.Fatalf("P13.1: thread %d came to %s; there wait%s", i, p.out, left)
		}
	}
}

// TestTwoFixes: two fix the same node: in all orders of their Steps just one is done, each key is found behind each touch, and the tree is as if one had been alone.
func TestTwoFixes(t *testing.T) {
	tagged := besideTagged()
	for i, made := range []func() *tree{leafRoot, tagRoot, meetsInner, joinsDeep, shares, tagged[0], tagged[4]} {
		t.Run(fmt.Sprint(i), func(t *testing.T) {
			t.Parallel()
			holdTwo(t, made)
		})
	}
}

func holdTwo(t *testing.T, made func() *tree) {
	n := made()
	alone := newBoth(t, plenty(2, 3), n)
	keys := n.nearby()
	was, _ := found(alone.real, keys)
	before := whole(alone.real)
	alone.run(t, alone.fixing(t, n.named("n")))
	behind := whole(alone.real)
	ends := map[string]int{}
	many := everyOrder(t, func() *both {
		n := made()
		b := newBoth(t, plenty(2, 3), n)
		b.start(b.fixing(t, n.named("n")))
		b.start(b.fixing(t, n.named("n")))
		return b
	}, func(b *both) {
		got, _ := found(b.real, keys)
		if all := whole(b.real); all != before && all != behind || !slices.Equal(got, was) {
			t.Fatalf("P13.1: two fix the same node: %s", all)
		}
	}, func(b *both) {
		ends[b.outs()]++
		if whole(b.real) != behind {
			t.Fatalf("P13.1: two fixed the same node: %s, %s", b.outs(), whole(b.real))
		}
		b.holdPlaces(t)
	})
	if len(ends) != 2 || ends[isDone+isNeither] == 0 || ends[isNeither+isDone] == 0 || many < 5000 {
		t.Errorf("P13.1: two fix the same node: %d places, ends: %v", many, ends)
	}
}

// TestLittleRoom: two fix the same node, with room for the nodes of one and a half, or fewer: whoever has none changes nothing; both may have none.
func TestLittleRoom(t *testing.T) {
	for _, left := range []int{1, 3, 5} {
		t.Run(fmt.Sprint(left), func(t *testing.T) {
			t.Parallel()
			holdLittle(t, left)
		})
	}
}

func holdLittle(t *testing.T, left int) {
	ends := map[string]int{}
	everyOrder(t, func() *both {
		n := shares()
		b := newBoth(t, setting{2, 3, left, 9}, n)
		b.start(b.fixing(t, n.named("n")))
		b.start(b.fixing(t, n.named("n")))
		return b
	}, func(*both) {}, func(b *both) {
		ends[b.outs()]++
		if done := b.doneOf() == 1; done != (whole(b.real) == "([10 20] 21 [21 22])") || b.doneOf() > 1 {
			t.Fatalf("P13.1: %d places are left: %s, %s", left, b.outs(), whole(b.real))
		}
		b.holdPlaces(t)
	})
	if (ends[isNone+isNone] > 0) != (left < 5) || (ends[isDone+isNeither] > 0) != (left > 2) || (ends[isDone+isNone] > 0) != (left > 2) {
		t.Errorf("P13.1: %d places are left: %v", left, ends)
	}
}

// meeting is a Fix of the node n, and what another one does meanwhile; at least one of both is done.
type meeting struct {
	made  func() *tree
	other func(b *both, n *tree) job
	both  bool // may both be done
}

func copies(key int64) func(*both, *tree) job {
	return func(*both, *tree) job { return copyJob(key) }
}

// fixes is a Fix of another node; up is as it stood there at first.
func fixes(t testing.TB, name string) func(*both, *tree) job {
	return func(b *both, n *tree) job { return b.fixing(t, n.named(name)) }
}

// mends fixes what is wrong on the way to a key, once, as it is by then.
func mends(key int64) func(*both, *tree) job {
	return func(*both, *tree) job { return mendJob(key, 1) }
}

// twoFew: both have the same node beside; eachFew: each other.
func twoFew() *tree  { return over("p", run("n", 10, 1), run("s", 20, 2), run("m", 30, 1)) }
func eachFew() *tree { return over("p", run("n", 10, 1), run("m", 20, 1), run("r", 30, 3)) }

// cousins: the nodes above are beside each other.
func cousins() *tree {
	return over("g", over("p", run("n", 10, 1), run("s", 20, 3)), over("q", run("r", 30, 2), run("m", 40, 1)))
}

// above: the node above is beside one with too few itself.
func above() *tree {
	return over("h", over("g", over("p", run("n", 10, 1), run("s", 20, 2), run("r", 30, 3)), over("m", run("", 40, 2))), over("q", wide("", 50, 2), wide("", 70, 2)))
}

// below: the root has one way; a tagged node is further below.
func below() *tree { return in("n", nil, over("s", run("r", 10, 2), wide("m", 20, 2).tag())) }

func meetings(t testing.TB) []meeting {
	return []meeting{
		// A leaf is changed: the node itself, the one beside, one below them, below another node.
		{leafRoot, copies(10), true}, {tagRoot, copies(20), true},
		{meets, copies(20), true}, {meetsInner, copies(10), true},
		{joins, copies(20), true}, {joins, copies(30), true},
		{shares, copies(10), true}, {sharesDeep, copies(30), true}, {sharesInner, copies(60), true},
		{besideTagged()[0], copies(10), true}, {besideTagged()[0], copies(30), true},
		// Another node is fixed: one with the same node beside, or this one; two that share nothing but what is above; one above, one below.
		{twoFew, fixes(t, "m"), false}, {eachFew, mends(20), false},
		{cousins, fixes(t, "m"), true}, {above, fixes(t, "m"), true},
		{below, fixes(t, "r"), true}, {below, mends(30), true},
	}
}

// TestMeetings: in all orders of their Steps at least one is done, no key is lost behind any touch, and no change of a leaf.
func TestMeetings(t *testing.T) {
	for i, c := range meetings(t) {
		t.Run(fmt.Sprint(i), func(t *testing.T) {
			t.Parallel()
			c.hold(t)
		})
	}
}

func (c meeting) hold(t *testing.T) {
	n := c.made()
	keys := n.nearby()
	was, _ := found(newBoth(t, plenty(2, 3), n).real, keys)
	isCopy := n.named("m") == nil
	ends := map[string]int{}
	many := everyOrder(t, func() *both {
		n := c.made()
		b := newBoth(t, plenty(2, 3), n)
		b.start(b.fixing(t, n.named("n")))
		b.start(c.other(b, n))
		return b
	}, func(b *both) {
		got, _ := found(b.real, keys)
		for i := range got {
			// A leaf's change makes one value one more.
			if got[i] < was[i] || got[i] > was[i]+1 {
				t.Fatalf("P13.1: key %d is found with %d, not %d: %s", keys[i], got[i], was[i], whole(b.real))
			}
		}
	}, func(b *both) {
		ends[b.outs()]++
		want := sumOf(was)
		if isCopy && b.pairs[1].out == isDone {
			want++
		}
		if got, depth := found(b.real, keys); sumOf(got) != want || depth < 0 {
			t.Fatalf("P13.1: a leaf's change is lost: %s, %v, not %v", b.outs(), got, was)
		}
		b.holdPlaces(t)
	})
	if ends[isNeither+isNeither] > 0 || ends[isDone+isNeither] == 0 && ends[isDone+isDone] == 0 || (ends[isDone+isDone] > 0) != c.both || many < 1000 {
		t.Errorf("P13.1: %d places, ends: %v", many, ends)
	}
}

func sumOf(l []int64) int64 {
	sum := int64(0)
	for _, n := range l {
		sum += n
	}
	return sum
}

// TestStandsStill: one stands still for ever behind any touch: whoever comes to the same node does it, or brings it to its end, so that the node went behind two times.
func TestStandsStill(t *testing.T) {
	t.Parallel()
	for _, c := range all() {
		for stop := 0; holdStandsStill(t, c, stop); stop++ {
		}
	}
}

// holdStandsStill: false, if the first one is at its end by then.
func holdStandsStill(t *testing.T, c kind, stop int) bool {
	t.Helper()
	n := c.made()
	b := newBoth(t, plenty(2, 3), n)
	defer b.stop()
	l, ways := b.loaded(t, n)
	first := b.start(b.fixing(t, n.named("n")))
	for range stop {
		first.stepUnheld()
	}
	if first.ended() {
		return false
	}
	out, _ := b.run(t, mendJob(n.named("n").first(), 2))
	// From the first SwapInfo on it is the first one's; behind its Set (each node's SwapInfo, SetAll, each but the first's SetMark, SwapWay, Set) nobody is at the nodes any more.
	took := loads(ways) + c.makes + 1
	end := took + 2*len(l) + 2
	if stop <= took && !strings.HasPrefix(out, isDone) || took < stop && stop < end-1 && !strings.HasPrefix(out, isNeither) || strings.Contains(out, isNone) {
		t.Errorf("P13.1: one stands still behind %d touches: the other one came to %s", stop, out)
	}
	for _, s := range spots(b.real) {
		if s.ref == n.named("n").ref {
			t.Errorf("P13.1: one stands still behind %d touches: the node is there still in %s", stop, whole(b.real))
		}
	}
	first.runUnheld(t)
	if (first.out == isDone) != (stop > took) {
		t.Errorf("P13.1: one stood still behind %d touches: it came to %s", stop, first.out)
	}
	b.noFaults(t)
	return true
}

// crowd is threads that begin, fix all on the way to some keys, change leaves, and end, again and again, in an order of all kinds.
type crowd struct {
	*both
	r    *rand.Rand
	keys []int64
	now  [4]*pair // what each thread does
	todo [4]int   // how many operations each is to do still
}

// doing is an operation from its Begin to its End.
func doing(j job) job {
	return thenJob(
		job{func(t world.Task) string { t.Begin(); return "" }, func(p *twin) string { p.enter(); return "" }},
		j,
		job{func(t world.Task) string { t.End(); return "" }, func(p *twin) string { p.end(); return "" }},
	)
}

// begin is an operation of thread me.
func (c *crowd) begin(me int) {
	key := c.keys[c.r.Intn(len(c.keys))]
	j := mendJob(key, 1+c.r.Intn(3))
	if c.r.Intn(4) == 0 {
		j = copyJob(key)
	}
	c.now[me] = c.startAs(me, doing(j))
	c.todo[me]--
}

// goOn goes on with thread me for a while.
func (c *crowd) goOn(t testing.TB, me int) {
	for range 1 + c.r.Intn(1+c.r.Intn(60)) {
		if c.now[me] == nil && c.todo[me] > 0 {
			c.begin(me)
		}
		p := c.now[me]
		if p == nil {
			return
		}
		p.stepUnheld()
		if p.ended() {
			p.hold(t)
			c.now[me] = nil
		}
	}
}

// active are the threads that have something to do.
func (c *crowd) active() []int {
	var out []int
	for me := range c.now {
		if c.now[me] != nil || c.todo[me] > 0 {
			out = append(out, me)
		}
	}
	return out
}

func holdCrowd(t *testing.T, seed int64, ends map[string]int) {
	t.Helper()
	r := rand.New(rand.NewSource(seed))
	a := 2 + r.Intn(2)
	n := (&grower{r: r, a: a, b: 2*a - 1 + r.Intn(2), tags: r.Intn(2) == 0}).someTree(1 + r.Intn(3))
	c := &crowd{both: newBoth(t, setting{a, 2 * a, 300, 900}, n), r: r, keys: n.nearby()}
	was, _ := found(c.real, c.keys)
	for me := range c.todo {
		c.todo[me] = 8
	}
	for l := c.active(); len(l) > 0; l = c.active() {
		// The later ones are seldom chosen, so that they stand still for long.
		c.goOn(t, l[r.Intn(1+r.Intn(len(l)))])
		got, _ := found(c.real, c.keys)
		for i := range got {
			if got[i] < was[i] || (got[i] == 0) != (was[i] == 0) {
				t.Fatalf("P13.1: key %d is found with %d, not %d: %s", c.keys[i], got[i], was[i], whole(c.real))
			}
		}
		was = got
	}
	for _, p := range c.pairs {
		ends[p.out]++
	}
	// What is still wrong goes; all that went is freed, when each thread has begun often enough.
	for _, k := range c.keys {
		c.startAs(0, doing(mendJob(k, 99))).runUnheld(t)
	}
	for range 5 {
		for me := range 4 {
			c.startAs(me, doing(mendJob(0, 0))).runUnheld(t)
		}
	}
	if got, depth := found(c.real, c.keys); !slices.Equal(got, was) || depth < 0 || c.real.Epochs.Limbo() != 0 {
		t.Errorf("P13.1: keys are found with %v, not %v; %d nodes wait", got, was, c.real.Epochs.Limbo())
	}
	c.holdBalanced(t)
	c.noFaults(t)
	c.stop()
}

// TestCrowd: orders of many, of which there are too many for all of them; what goes is freed meanwhile.
func TestCrowd(t *testing.T) {
	t.Parallel()
	ends := map[string]int{}
	for seed := range int64(60) {
		holdCrowd(t, seed, ends)
	}
	if ends[isDone] < 100 || ends[isNeither] < 30 || ends[isNeither+isDone] == 0 {
		t.Errorf("P13.1: operations came to %v", ends)
	}
}
