package mend

import (
	"crypto/sha256"
	"fmt"
	"math/rand"
	"slices"
	"strings"
	"testing"

	"boscage/world"
)

// open are those that aren't at their end.
func (b *both) open() []int {
	var out []int
	for i, p := range b.pairs {
		if !p.ended() {
			out = append(out, i)
		}
	}
	return out
}

// key is all on which it hangs what may come: what stands there, and what each was told.
func (b *both) key() [sha256.Size]byte {
	out := []byte(b.dump(b.twin))
	for _, p := range b.pairs {
		out = append(out, " ; "...)
		for _, told := range p.twin.told {
			out = append(append(out, told...), ',')
		}
	}
	return sha256.Sum256(out)
}

// places are those that were come by.
type places map[[sha256.Size]byte]bool

// everyOrder goes through every order in which those that were started may go on; where two orders come to the same, one of them is gone on with: how many places it came by.
func everyOrder(t testing.TB, set func() *both, look, end func(*both)) int {
	t.Helper()
	seen := places{}
	todo := [][]int{nil}
	for len(todo) > 0 {
		order := todo[len(todo)-1]
		todo = todo[:len(todo)-1]
		// Most orders come to a place that was come by, which the twins alone tell faster.
		b := set()
		longer, others := b.goOn(order, seen)
		b.stop()
		todo = append(todo, others...)
		if longer != nil {
			set().holdOrder(t, longer, len(order), look, end)
		}
	}
	return len(seen)
}

// goOn goes on with the twins in an order, and then up to a place that was come by, or to the end: the whole order, and those that go another way from there (none, if it comes by no other place).
func (b *both) goOn(order []int, seen places) (longer []int, others [][]int) {
	for _, i := range order {
		b.pairs[i].twin.step()
	}
	last := 0
	if len(order) > 0 {
		last = order[len(order)-1]
	}
	longer = slices.Clone(order)
	for key := b.key(); !seen[key]; key = b.key() {
		seen[key] = true
		open := b.open()
		if len(open) == 0 {
			return longer, others
		}
		// Who went on last goes on, so that one order comes by many places.
		if !slices.Contains(open, last) {
			last = open[0]
		}
		for _, i := range open {
			if i != last {
				others = append(others, append(slices.Clone(longer), i))
			}
		}
		longer = append(longer, last)
		b.pairs[last].twin.step()
	}
	if len(longer) == len(order) {
		return nil, nil
	}
	return longer, others
}

// holdOrder goes on in an order, and holds both against each other from some place on.
func (b *both) holdOrder(t testing.TB, order []int, from int, look, end func(*both)) {
	t.Helper()
	defer b.stop()
	for k := range len(order) + 1 {
		if k > 0 {
			b.pairs[order[k-1]].stepUnheld()
		}
		if k < from {
			continue
		}
		for _, p := range b.pairs {
			p.holdTold(t)
		}
		b.hold(t)
		look(b)
	}
	if len(b.open()) == 0 {
		end(b)
	}
	b.noFaults(t)
}

// outs are what all came to.
func (b *both) outs() string {
	out := ""
	for _, p := range b.pairs {
		out += p.out
	}
	return out
}

// changed: did a thread change the tree?
func (p *pair) changed() bool {
	for _, fix := range p.twin.fixes {
		if !strings.Contains(fix, ":") {
			return true
		}
	}
	return strings.Contains(p.out, isDone)
}

// holdPlaces holds, when all are at their end: the places that are used are those of the tree, of the entry, and of those that wait; whoever changed something let go what went, and nobody else did.
func (b *both) holdPlaces(t testing.TB) {
	t.Helper()
	if used, there, waits := b.real.Arena.Used(), len(spots(b.real)), b.real.Epochs.Limbo(); used != there+1+waits {
		t.Fatalf("P14.2: %d places are used; %d nodes are there, %d wait", used, there+1, waits)
	}
	left := b.holdWaits(t)
	for i, p := range b.pairs {
		if strings.Contains(left, fmt.Sprint(" ", i, ":")) != p.changed() {
			t.Fatalf("P14.2: thread %d came to %s by %q; there wait%s", i, p.out, p.twin.fixes, left)
		}
	}
}

// fixesOf are the Fixes that all came to.
func (b *both) fixesOf() string {
	out := ""
	for _, p := range b.pairs {
		out += fmt.Sprint(p.twin.fixes)
	}
	return out
}

// holdMended holds that nothing is wrong on the way to a key.
func (b *both) holdMended(t testing.TB, key int64) {
	t.Helper()
	if at := wrongOn(b.real, key); at != "" {
		t.Fatalf("P14.2: on the way to %d is %s in %s", key, at, whole(b.real))
	}
}

// wrongOn is the first node that is wrong on the way to a key, as a text.
func wrongOn(w *world.World, key int64) string {
	r := w.Arena.Way(w.Entry, 0)
	for isRoot := true; ; isRoot = false {
		n := w.Arena.Look(r)
		if n.Tagged || few(w.A, n, isRoot) {
			return shape(w, r)
		}
		if !n.Inner {
			return ""
		}
		i := 0
		for i < len(n.Ways.Keys) && n.Ways.Keys[i] <= key {
			i++
		}
		r = w.Arena.Way(r, i)
	}
}

// meeting is a tree, and what two do at once: each mends the way to a key, or changes the leaf there.
type meeting struct {
	made   func() *tree
	key    int64
	other  int64
	copies bool // the other one changes the leaf
}

func (c meeting) otherJob() job {
	if c.copies {
		return copyJob(c.other)
	}
	return pathJob(c.other)
}

func meetings() []meeting {
	return []meeting{
		// The same way.
		{leafRoot, 10, 10, false}, {tagged, 10, 10, false}, {tagRoot, 10, 10, false}, {meets, 10, 10, false},
		// Ways that part.
		{tagBelow, 10, 20, false},
		// A leaf is changed.
		{leafRoot, 10, 10, true}, {tagBelow, 20, 20, true}, {shares, 10, 20, true}, {joins, 20, 30, true}, {besideTagged, 10, 30, true},
	}
}

// longer are those that have too many orders for all of them.
func longer() []meeting {
	return []meeting{
		{shares, 10, 10, false}, {twoFew, 10, 30, false}, {eachFew, 10, 20, false}, {besideTagged, 10, 30, false},
		{twice, 10, 30, false}, {climbs, 10, 10, false}, {climbs, 20, 30, true}, {splits, 20, 60, false}, {splits, 10, 60, true},
	}
}

// TestMeetings: in all orders of their Steps no key is lost behind any touch, and no change of a leaf; in the end nothing is wrong on the ways that were mended.
func TestMeetings(t *testing.T) {
	t.Parallel()
	for i, c := range meetings() {
		t.Run(fmt.Sprint(i), func(t *testing.T) {
			t.Parallel()
			c.hold(t)
		})
	}
}

func (c meeting) hold(t *testing.T) {
	n := c.made()
	keys := n.nearby()
	was, _ := found(newBoth(t, plenty(2, 3), n).real, keys)
	ends := map[string]int{}
	many := everyOrder(t, func() *both {
		b := newBoth(t, plenty(2, 3), c.made())
		b.start(pathJob(c.key))
		b.start(c.otherJob())
		return b
	}, func(b *both) {
		got, _ := found(b.real, keys)
		for i := range got {
			// A leaf's change makes one value one more.
			if got[i] < was[i] || got[i] > was[i]+1 {
				t.Fatalf("P14.2: key %d is found with %d, not %d: %s", keys[i], got[i], was[i], whole(b.real))
			}
		}
	}, func(b *both) {
		ends[b.fixesOf()]++
		c.holdEnd(t, b, keys, sumOf(was))
	})
	again := 0
	for end, n := range ends {
		if strings.Contains(end, "neither") {
			again += n
		}
	}
	if many < 1000 || again == 0 || len(ends) < 2 {
		t.Errorf("P14.2: %d places, ends: %v", many, ends)
	}
}

// holdEnd holds what there is when all are at their end: values were so much, all together, at first.
func (c meeting) holdEnd(t *testing.T, b *both, keys []int64, sum int64) {
	t.Helper()
	if c.copies && b.pairs[1].out == isDone {
		sum++
	}
	if got, depth := found(b.real, keys); sumOf(got) != sum || depth < 0 || b.pairs[0].out != isMended {
		t.Fatalf("P14.2: a leaf's change is lost: %s, %s, %v, not %d all together", b.outs(), b.fixesOf(), got, sum)
	}
	b.holdMended(t, c.key)
	if !c.copies {
		b.holdMended(t, c.other)
	}
	b.holdPlaces(t)
}

func sumOf(l []int64) int64 {
	sum := int64(0)
	for _, n := range l {
		sum += n
	}
	return sum
}

// TestLittleRoom: two mend the same way, with room for the nodes of one and a half, or fewer: whoever has none tells so; both may have none.
func TestLittleRoom(t *testing.T) {
	t.Parallel()
	for _, left := range []int{1, 3, 5} {
		t.Run(fmt.Sprint(left), func(t *testing.T) {
			t.Parallel()
			holdLittle(t, left)
		})
	}
}

func holdLittle(t *testing.T, left int) {
	ends := map[string]int{}
	everyOrder(t, func() *both {
		b := newBoth(t, setting{2, 3, left, 9}, shares())
		b.start(pathJob(10))
		b.start(pathJob(10))
		return b
	}, func(*both) {}, func(b *both) {
		ends[b.outs()]++
		if strings.Contains(b.outs(), isMended) != (whole(b.real) == "([10 20] 21 [21 22])") {
			t.Fatalf("P14.2: %d places are left: %s, %s", left, b.outs(), whole(b.real))
		}
		b.holdPlaces(t)
	})
	if (ends[isShort+isShort] > 0) != (left < 5) || (ends[isMended+isMended] > 0) != (left > 2) || (ends[isMended+isShort] > 0) != (left > 2) {
		t.Errorf("P14.2: %d places are left: %v", left, ends)
	}
}

// TestStandStill: two stand still for ever, each behind any touch: a third one mends the way all the same; so do they, when they go on.
func TestStandStill(t *testing.T) {
	t.Parallel()
	for i, made := range []func() *tree{leafRoot, tagRoot, meets, besideTagged} {
		t.Run(fmt.Sprint(i), func(t *testing.T) {
			t.Parallel()
			ends := map[string]int{}
			// Till the first one is at its end by then, and so is the second.
			for first := 0; holdStandStill(t, made(), first, 0, ends) == 2; first += 1 + i/2 {
				for second := 1; holdStandStill(t, made(), first, second, ends) == 2; second += 1 + i/2 {
				}
			}
			if len(ends) < 4 {
				t.Errorf("P14.2: ends: %v", ends)
			}
		})
	}
}

// holdStandStill: how many of two aren't at their end, when they stand still behind so many touches, one behind the other.
func holdStandStill(t *testing.T, n *tree, first, second int, ends map[string]int) int {
	t.Helper()
	b := newBoth(t, plenty(2, 3), n)
	defer b.stop()
	keys := n.nearby()
	was, _ := found(b.real, keys)
	one, two, three := b.start(pathJob(10)), b.start(pathJob(10)), b.start(pathJob(10))
	for range first {
		one.stepUnheld()
	}
	for range second {
		two.stepUnheld()
	}
	open := 0
	for _, p := range b.pairs[:2] {
		if !p.ended() {
			open++
		}
	}
	for _, p := range []*pair{three, two, one} {
		if out, _ := p.runUnheld(t); out != isMended {
			t.Errorf("P14.2: two stood still behind %d and %d touches: %s", first, second, out)
		}
		b.holdMended(t, 10)
	}
	if got, _ := found(b.real, keys); !slices.Equal(got, was) {
		t.Errorf("P14.2: two stood still behind %d and %d touches: keys are found with %v, not %v", first, second, got, was)
	}
	ends[b.fixesOf()]++
	b.holdPlaces(t)
	b.noFaults(t)
	return open
}

// TestRandomOrders: two, and three, in orders of all kinds.
func TestRandomOrders(t *testing.T) {
	t.Parallel()
	for _, three := range []bool{false, true} {
		t.Run(fmt.Sprint(three), func(t *testing.T) {
			t.Parallel()
			r := rand.New(rand.NewSource(14))
			ends := map[string]int{}
			for range 1500 {
				l := append(meetings(), longer()...)
				l[r.Intn(len(l))].holdSome(t, r, three, ends)
			}
			if len(ends) < 50 {
				t.Errorf("P14.2: ends: %v", ends)
			}
		})
	}
}

// holdSome is one order; a third thread mends the way to any key.
func (c meeting) holdSome(t *testing.T, r *rand.Rand, three bool, ends map[string]int) {
	t.Helper()
	n := c.made()
	b := newBoth(t, plenty(2, 3), n)
	defer b.stop()
	keys := n.nearby()
	was, _ := found(b.real, keys)
	b.start(pathJob(c.key))
	b.start(c.otherJob())
	if three {
		b.start(pathJob(keys[r.Intn(len(keys))]))
	}
	for l := b.open(); len(l) > 0; l = b.open() {
		p := b.pairs[l[r.Intn(len(l))]]
		for range 1 + r.Intn(1+r.Intn(40)) {
			p.stepUnheld()
		}
		b.hold(t)
	}
	for _, p := range b.pairs {
		p.holdTold(t)
	}
	ends[b.fixesOf()]++
	c.holdEnd(t, b, keys, sumOf(was))
	b.noFaults(t)
}

// crowd is threads that begin, fix all on the way to some keys, change leaves, and end, again and again, in an order of all kinds.
type crowd struct {
	*both
	r    *rand.Rand
	keys []int64
	now  [4]*pair // what each thread does
	todo [4]int   // how many operations each is to do still
}

// doing is an operation from its Begin to its End.
func doing(j job) job {
	return thenJob(
		job{func(t world.Task) string { t.Begin(); return "" }, func(p *twin) string { p.enter(); return "" }},
		j,
		job{func(t world.Task) string { t.End(); return "" }, func(p *twin) string { p.end(); return "" }},
	)
}

// begin is an operation of thread me.
func (c *crowd) begin(me int) {
	key := c.keys[c.r.Intn(len(c.keys))]
	j := pathJob(key)
	if c.r.Intn(4) == 0 {
		j = copyJob(key)
	}
	c.now[me] = c.startAs(me, doing(j))
	c.todo[me]--
}

// goOn goes on with thread me for a while.
func (c *crowd) goOn(t testing.TB, me int) {
	for range 1 + c.r.Intn(1+c.r.Intn(60)) {
		if c.now[me] == nil && c.todo[me] > 0 {
			c.begin(me)
		}
		p := c.now[me]
		if p == nil {
			return
		}
		p.stepUnheld()
		if p.ended() {
			p.hold(t)
			c.now[me] = nil
		}
	}
}

// active are the threads that have something to do.
func (c *crowd) active() []int {
	var out []int
	for me := range c.now {
		if c.now[me] != nil || c.todo[me] > 0 {
			out = append(out, me)
		}
	}
	return out
}

func holdCrowd(t *testing.T, seed int64, ends map[string]int) {
	t.Helper()
	r := rand.New(rand.NewSource(seed))
	a := 2 + r.Intn(2)
	n := (&grower{r: r, a: a, b: 2*a - 1 + r.Intn(2), tags: r.Intn(2) == 0}).someTree(1 + r.Intn(3))
	c := &crowd{both: newBoth(t, setting{a, 2 * a, 300, 900}, n), r: r, keys: n.nearby()}
	was, _ := found(c.real, c.keys)
	for me := range c.todo {
		c.todo[me] = 8
	}
	for l := c.active(); len(l) > 0; l = c.active() {
		// The later ones are seldom chosen, so that they stand still for long.
		c.goOn(t, l[r.Intn(1+r.Intn(len(l)))])
		got, _ := found(c.real, c.keys)
		for i := range got {
			if got[i] < was[i] || (got[i] == 0) != (was[i] == 0) {
				t.Fatalf("P14.2: key %d is found with %d, not %d: %s", c.keys[i], got[i], was[i], whole(c.real))
			}
		}
		was = got
	}
	for _, p := range c.pairs {
		ends[fmt.Sprint(len(p.twin.fixes), strings.Contains(fmt.Sprint(p.twin.fixes), "neither"))]++
	}
	// What is still wrong goes; all that went is freed, when each thread has begun often enough.
	for _, k := range c.keys {
		c.startAs(0, doing(pathJob(k))).runUnheld(t)
	}
	for range 5 {
		for me := range 4 {
			c.startAs(me, doing(noJob())).runUnheld(t)
		}
	}
	if got, depth := found(c.real, c.keys); !slices.Equal(got, was) || depth < 0 || c.real.Epochs.Limbo() != 0 {
		t.Errorf("P14.2: keys are found with %v, not %v; %d nodes wait", got, was, c.real.Epochs.Limbo())
	}
	c.holdBalanced(t)
	c.noFaults(t)
	c.stop()
}

// TestCrowd: orders of many, of which there are too many for all of them; what goes is freed meanwhile.
func TestCrowd(t *testing.T) {
	t.Parallel()
	ends := map[string]int{}
	for seed := range int64(60) {
		holdCrowd(t, seed, ends)
	}
	again := 0
	for end, n := range ends {
		if strings.HasSuffix(end, "true") {
			again += n
		}
	}
	if ends["0 false"] < 100 || ends["1 false"] < 50 || again < 50 {
		t.Errorf("P14.2: operations came to so many Fixes: %v", ends)
	}
}
