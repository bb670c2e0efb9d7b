package tag

import (
	"fmt"
	"math/rand"
	"slices"
	"strings"
	"testing"

	"boscage/record"
)

// TestExample: a tagged node of two ways below one of three becomes one of four, if B is four or more.
func TestExample(t *testing.T) {
	for b := 3; b <= 32; b++ {
		low := tg("n", ks(5), lf(3, 4), lf(5, 6))
		n := in("p", ks(3, 9), lf(1, 2), low, lf(9, 10))
		w := newBoth(t, plenty(b), n)
		want := "(L1 3 L3 5 L5 9 L9)"
		if b == 3 {
			want = "((L1 3 L3) 5 (L5 9 L9))"
		}
		if out, _ := w.run(t, w.fixing(t, low)); out != isDone || whole(w.real) != want {
			t.Errorf("P12.1: B %d: %s, %s, not %s", b, out, whole(w.real), want)
		}
		w.noFaults(t)
	}
}

// byHand is a tree, of which the node named n is fixed; all else is what comes of it.
type byHand struct {
	b     int
	tree  *tree
	want  string
	left  string // who waits to be freed
	nodes int    // how many places are used
	steps int    // how many touches there are
}

// The touches of one Load are five, and one of each way. Those of a Store of n nodes are one for the record, one of each node, SetAll, a mark of each but the first, the way, Set. Those of Leave are two a node.
func hands() []byHand {
	root := func(ways int) byHand {
		// The entry, and the root; one node is made.
		return byHand{3, wide("n", 10, ways).tag(), shapeOf(10, ways), " 0:n@3", 3 + ways, 6 + 5 + ways + 1 + 7 + 2}
	}
	return []byHand{
		root(1), root(2), root(3), root(4), root(32),
		// As many as B: one node.
		{3, over("p", tg("n", ks(20), leaves(10, 2)...), lf(30)), "(L10 20 L20 30 L30)", " 0:p@3 0:n@3", 7, 6 + 7 + 7 + 1 + 9 + 4},
		{3, over("p", lf(10), tg("n", ks(30), leaves(20, 2)...)), "(L10 20 L20 30 L30)", " 0:p@3 0:n@3", 7, 6 + 7 + 7 + 1 + 9 + 4},
		{4, over("p", lf(10), tg("n", ks(30), leaves(20, 2)...), lf(40)), "(L10 20 L20 30 L30 40 L40)", " 0:p@3 0:n@3", 8, 6 + 8 + 7 + 1 + 9 + 4},
		{3, over("p", tg("n", ks(20, 30), leaves(10, 3)...)), "(L10 20 L20 30 L30)", " 0:p@3 0:n@3", 7, 6 + 6 + 8 + 1 + 9 + 4},
		{3, over("p", lf(10), wide("n", 20, 1).tag()), "(L10 20 L20)", " 0:p@3 0:n@3", 6, 6 + 7 + 6 + 1 + 9 + 4},
		// Keys between that are no leaf's.
		{4, in("p", ks(17, 38), lf(10), tg("n", ks(22), leaves(20, 2)...), lf(40)), "(L10 17 L20 22 L30 38 L40)", " 0:p@3 0:n@3", 8, 6 + 8 + 7 + 1 + 9 + 4},
		// One more than B, below the entry: the new root isn't tagged.
		{3, over("p", tg("n", ks(20), leaves(10, 2)...), lf(30), lf(40)), "((L10 20 L20) 30 (L30 40 L40))", " 0:p@3 0:n@3", 10, 6 + 8 + 7 + 3 + 9 + 4},
		{3, over("p", lf(10), tg("n", ks(30), leaves(20, 2)...), lf(40)), "((L10 20 L20) 30 (L30 40 L40))", " 0:p@3 0:n@3", 10, 6 + 8 + 7 + 3 + 9 + 4},
		{3, over("p", lf(10), lf(20), tg("n", ks(40), leaves(30, 2)...)), "((L10 20 L20) 30 (L30 40 L40))", " 0:p@3 0:n@3", 10, 6 + 8 + 7 + 3 + 9 + 4},
		{4, over("p", lf(10), lf(20), lf(30), tg("n", ks(50), leaves(40, 2)...)), "((L10 20 L20) 30 (L30 40 L40 50 L50))", " 0:p@3 0:n@3", 11, 6 + 9 + 7 + 3 + 9 + 4},
		// Below another node it is tagged.
		{3, over("g", over("p", lf(10), tg("n", ks(30), leaves(20, 2)...), lf(40)), wide("q", 50, 2)), "(*((L10 20 L20) 30 (L30 40 L40)) 50 (L50 60 L60))", " 0:p@3 0:n@3", 14, 7 + 8 + 7 + 3 + 9 + 4},
		{3, over("g", wide("q", 10, 2), over("p", lf(30), lf(40), tg("n", ks(60), leaves(50, 2)...))), "((L10 20 L20) 30 *((L30 40 L40) 50 (L50 60 L60)))", " 0:p@3 0:n@3", 14, 7 + 8 + 7 + 3 + 9 + 4},
		{3, over("g", wide("q", 10, 2), over("p", lf(30), tg("n", ks(50), leaves(40, 2)...)), wide("r", 60, 3)), "((L10 20 L20) 30 (L30 40 L40 50 L50) 60 (L60 70 L70 80 L80))", " 0:p@3 0:n@3", 15, 8 + 7 + 7 + 1 + 9 + 4},
		// Whether g is tagged isn't asked.
		{3, over("g", over("p", lf(10), tg("n", ks(30), leaves(20, 2)...), lf(40)), wide("q", 50, 2)).tag(), "*(*((L10 20 L20) 30 (L30 40 L40)) 50 (L50 60 L60))", " 0:p@3 0:n@3", 14, 7 + 8 + 7 + 3 + 9 + 4},
		{3, over("g", over("p", lf(10), tg("n", ks(30), leaves(20, 2)...)), wide("q", 40, 2)).tag(), "*((L10 20 L20 30 L30) 40 (L40 50 L50))", " 0:p@3 0:n@3", 11, 7 + 7 + 7 + 1 + 9 + 4},
		// Others beside it, and below it, that are tagged stay so.
		{4, over("p", wide("q", 10, 2).tag(), over("n", wide("r", 30, 2).tag(), lf(50)).tag()), "(*(L10 20 L20) 30 *(L30 40 L40) 50 L50)", " 0:p@3 0:n@3", 11, 6 + 7 + 7 + 1 + 9 + 4},
		// Three levels above.
		{3, over("h", over("g", over("p", lf(10), tg("n", ks(30), leaves(20, 2)...), lf(40)), wide("q", 50, 2)), over("s", wide("r", 70, 2), wide("u", 90, 2))),
			"((*((L10 20 L20) 30 (L30 40 L40)) 50 (L50 60 L60)) 70 ((L70 80 L80) 90 (L90 100 L100)))", " 0:p@3 0:n@3", 22, 7 + 8 + 7 + 3 + 9 + 4},
	}
}

// shapeOf is the shape of a wide node.
func shapeOf(from int64, n int) string {
	out := fmt.Sprint("(L", from)
	for i := range int64(n - 1) {
		out += fmt.Sprintf(" %d L%d", from+10*i+10, from+10*i+10)
	}
	return out + ")"
}

func (n *tree) named(name string) *tree {
	for _, o := range n.nodes() {
		if o.name == name {
			return o
		}
	}
	return nil
}

func TestByHand(t *testing.T) {
	for i, c := range hands() {
		w := newBoth(t, plenty(c.b), c.tree)
		keys := c.tree.nearby()
		was := lies(t, w.real, keys)
		out, steps := w.run(t, w.fixing(t, c.tree.named("n")))
		if out != isDone || whole(w.real) != c.want || steps != c.steps {
			t.Errorf("P12.1: case %d: %s, %s behind %d touches, not %s behind %d", i, out, whole(w.real), steps, c.want, c.steps)
		}
		if !slices.Equal(lies(t, w.real, keys), was) {
			t.Errorf("P12.1: case %d: a key goes to another leaf", i)
		}
		if used := w.real.Arena.Used(); used != c.nodes {
			t.Errorf("P12.1: case %d: %d places are used, not %d", i, used, c.nodes)
		}
		if left := w.holdWaits(t); left != c.left {
			t.Errorf("P12.1: case %d: there wait%s, not%s", i, left, c.left)
		}
		w.noFaults(t)
	}
}

// TestMarks: p and the node are marked then, all others aren't; one record was made, that is done.
func TestMarks(t *testing.T) {
	for i, c := range hands() {
		w := newBoth(t, plenty(c.b), c.tree)
		w.run(t, w.fixing(t, c.tree.named("n")))
		for _, o := range c.tree.nodes() {
			if w.real.Arena.Mark(o.ref) != (o.name == "p" || o.name == "n") {
				t.Errorf("P12.1: case %d: node %s: marked is %t", i, o.name, w.real.Arena.Mark(o.ref))
			}
		}
		if w.real.Arena.Mark(w.real.Entry) || w.real.Records.Len() != 1 || w.real.Records.State(1) != record.Done {
			t.Errorf("P12.1: case %d: %d records", i, w.real.Records.Len())
		}
		if got := w.real.Records.Look(1); got.Keep != 1 || len(got.Nodes) != 2+int(bit(c.tree.name != "n")) {
			t.Errorf("P12.1: case %d: the record is %v", i, got)
		}
	}
}

func bit(b bool) int64 {
	if b {
		return 1
	}
	return 0
}

// load is the touches of a Load of a node of some ways.
func load(name string, ways int) string {
	return fmt.Sprintf("Mark %s, Info %s, State, Mark %s, %sInfo %s, ", name, name, name, strings.Repeat("Way "+name+", ", ways), name)
}

// touches are a twin's by their names.
func (p *twin) touches() string {
	out := ""
	for _, told := range p.told {
		name, _, _ := strings.Cut(told, ":")
		out += name + ", "
	}
	return out
}

// holdTouches does a Fix of the node n, and holds its touches.
func holdTouches(t *testing.T, c setting, n *tree, out, want string) *both {
	t.Helper()
	w := newBoth(t, c, n)
	p := w.start(w.fixing(t, n.named("n")))
	if got, _ := p.run(t); got != out || p.twin.touches() != want {
		t.Errorf("P12.1: %s:\n%s, not %s:\n%s", got, p.twin.touches(), out, want)
	}
	w.noFaults(t)
	return w
}

// Trees of which the node n is fixed.
func asRoot() *tree { return wide("n", 10, 2).tag() }
func fits() *tree   { return over("p", lf(10), wide("n", 20, 2).tag()) }
func splits() *tree { return over("p", lf(10), wide("n", 20, 2).tag(), lf(40)) }
func deep() *tree   { return over("g", over("q", lf(1), lf(2)), splits(), over("r", lf(50), lf(60))) }
func deepFits() *tree {
	return over("g", over("q", lf(1), lf(2)), fits(), over("r", lf(50), lf(60)))
}

// TestTouchesByHand: what each touch is, in order. (The twin is held against the package at each of them.)
func TestTouchesByHand(t *testing.T) {
	store := "Record, SwapInfo entry, SwapInfo p, SwapInfo n, SetAll, SetMark p, SetMark n, SwapWay entry, Set, "
	leave := "Now, Leave p, Now, Leave n, "
	holdTouches(t, plenty(3), asRoot(), isDone, load("entry", 1)+load("n", 2)+"Alloc, Record, SwapInfo entry, SwapInfo n, SetAll, SetMark n, SwapWay entry, Set, Now, Leave n, ")
	holdTouches(t, plenty(3), fits(), isDone, load("entry", 1)+load("p", 2)+load("n", 2)+"Alloc, "+store+leave)
	holdTouches(t, plenty(3), splits(), isDone, load("entry", 1)+load("p", 3)+load("n", 2)+"Alloc, Alloc, Alloc, "+store+leave)
	holdTouches(t, plenty(3), deep(), isDone, load("g", 3)+load("p", 3)+load("n", 2)+"Alloc, Alloc, Alloc, "+strings.ReplaceAll(store, "entry", "g")+leave)
	holdTouches(t, plenty(3), deepFits(), isDone, load("g", 3)+load("p", 2)+load("n", 2)+"Alloc, "+strings.ReplaceAll(store, "entry", "g")+leave)
	// Nodes of the tree have the places up to there.
	noRecord := load("entry", 1) + load("n", 2) + "Alloc, Record, Free #4, "
	holdTouches(t, setting{3, 3, 0}, asRoot(), isNone, noRecord)
	holdTouches(t, setting{3, 3, 0}, fits(), isNone, load("entry", 1)+load("p", 2)+load("n", 2)+"Alloc, Record, Free #6, ")
	holdTouches(t, setting{3, 3, 0}, splits(), isNone, load("entry", 1)+load("p", 3)+load("n", 2)+"Alloc, Alloc, Alloc, Record, Free #7, Free #8, Free #9, ")
}

// halvesOf is the shape of what so many leaves come to, where one node has so many ways at most.
func halvesOf(n, most int, tagged bool) string {
	if n <= most {
		return shapeOf(10, n)
	}
	star := ""
	if tagged {
		star = "*"
	}
	rest := int64(10 + n/2*10)
	return fmt.Sprintf("%s(%s %d %s)", star, shapeOf(10, n/2), rest, shapeOf(rest, n-n/2))
}

// some are a few of the numbers from 1 up to a greatest one.
func some(most int) []int {
	if most < 8 {
		return []int{1, 2, 3, 4, 5, 6, 7}[:most]
	}
	return []int{1, 2, most/2 - 1, most / 2, most/2 + 1, most - 2, most - 1, most}
}

// holdSizes fixes a node of some ways, at a way of one of some ways.
func holdSizes(t *testing.T, b, above, ways, at int, deep bool) {
	t.Helper()
	l := leaves(10, above-1+ways)
	n := over("n", l[at:at+ways]...).tag()
	tree := over("p", append(append(slices.Clone(l[:at]), n), l[at+ways:]...)...)
	all := above - 1 + ways
	want, made := halvesOf(all, b, deep), 1
	if all > b {
		made = 3
	}
	steps := 6 + 5 + above + 5 + ways + made + 9 + 4
	if deep {
		tree = over("g", tree, wide("q", 5000, 2))
		want = "(" + want + " 5000 (L5000 5010 L5010))"
		steps++
	}
	w := newBoth(t, setting{b, made, 1}, tree)
	p := w.start(w.fixing(t, n))
	for !p.ended() {
		p.stepUnheld()
	}
	p.hold(t)
	if p.out != isDone || whole(w.real) != want || p.real.Steps() != steps {
		t.Errorf("P12.1: B %d, %d ways at way %d of %d: %s, %s behind %d touches, not %s behind %d", b, ways, at, above, p.out, whole(w.real), p.real.Steps(), want, steps)
	}
	w.noFaults(t)
	w.stop()
}

// TestSizes: all numbers of ways, at the least and the greatest B and between, at the first, the last and a middle way; with just as much room, and as many records, as are needed.
func TestSizes(t *testing.T) {
	for _, b := range []int{3, 4, 5, 6, 31, 32} {
		for _, above := range some(b) {
			for _, ways := range some(b) {
				for _, at := range slices.Compact([]int{0, (above - 1) / 2, above - 1}) {
					holdSizes(t, b, above, ways, at, false)
					holdSizes(t, b, above, ways, at, true)
				}
			}
		}
	}
}

// TestWaysThen: ways are as they are when the nodes are loaded, not as they were made.
func TestWaysThen(t *testing.T) {
	for _, c := range []struct {
		tree *tree
		want string
	}{
		{asRoot(), "(L10 20 L77)"},
		{fits(), "(L11 20 L20 30 L77)"},
		{splits(), "((L11 20 L20) 30 (L77 40 L40))"},
		{deep(), "((L1 2 L2) 10 *((L11 20 L20) 30 (L77 40 L40)) 50 (L88 60 L60))"},
	} {
		w := newBoth(t, plenty(3), c.tree)
		n := c.tree.named("n")
		w.leads(n.ref, 1, w.add(t, lf(77).node()))
		if p := c.tree.named("p"); p != nil {
			w.leads(p.ref, 0, w.add(t, lf(11).node()))
		}
		if r := c.tree.named("r"); r != nil {
			// The node beside p is another one, too, at a way that g has kept since it was made.
			o := over("r", lf(88), lf(60))
			for _, b := range o.below {
				b.ref = w.add(t, b.node())
			}
			w.leads(c.tree.ref, 2, w.add(t, in("", ks(60), o.below...).node()))
		}
		if out, _ := w.run(t, w.fixing(t, n)); out != isDone || whole(w.real) != c.want {
			t.Errorf("P12.1: %s, %s, not %s", out, whole(w.real), c.want)
		}
	}
}

// TestUpByItsReferences: of up only g's reference and its way, and p's reference are of use; the way is the one handed in beside it.
func TestUpByItsReferences(t *testing.T) {
	for _, made := range []func() *tree{asRoot, fits, splits, deep, deepFits} {
		n := made()
		w := newBoth(t, plenty(3), n)
		w.run(t, w.fixing(t, n.named("n")))
		want := whole(w.real)

		n = made()
		w = newBoth(t, plenty(3), n)
		up, way := w.upTo(t, n.named("n"))
		for i := range up {
			up[i].Node.Inner, up[i].Node.Tagged = false, true
			up[i].Node.Pairs, up[i].Node.Ways = lf(5, 6).node().Pairs, lf(5).node().Ways
			if i != len(up)-2 {
				up[i].Way = 99
			}
			if i < len(up)-2 {
				up[i].Ref = 0
			}
		}
		if out, _ := w.run(t, fixJob(up, way, n.named("n").ref)); out != isDone || whole(w.real) != want {
			t.Errorf("P12.1: %s, %s, not %s", out, whole(w.real), want)
		}
		w.noFaults(t)
	}
}

// TestBehindAPath: up as chapter 11 tells it, in the same thread's work.
func TestBehindAPath(t *testing.T) {
	for _, c := range []struct {
		tree *tree
		want string
	}{
		{asRoot(), "(L10 20 L20)"},
		{fits(), "(L10 20 L20 30 L30)"},
		{splits(), "((L10 20 L20) 30 (L30 40 L40))"},
		{deep(), "((L1 2 L2) 10 *((L10 20 L20) 30 (L30 40 L40)) 50 (L50 60 L60))"},
	} {
		w := newBoth(t, plenty(3), c.tree)
		if out, _ := w.run(t, mendJob(20, 1)); out != isDone || whole(w.real) != c.want {
			t.Errorf("P12.1: %s, %s, not %s", out, whole(w.real), c.want)
		}
	}
}

// TestOneBehindTheOther: several in one work come to the same as each in its own.
func TestOneBehindTheOther(t *testing.T) {
	made := func() *tree {
		return over("g", over("p", wide("n", 10, 2).tag(), wide("m", 30, 2).tag()), wide("q", 50, 3)).tag()
	}
	n := made()
	apart := newBoth(t, plenty(3), n)
	outs := ""
	var l []job
	for _, name := range []string{"n", "m", "g", "g"} {
		l = append(l, apart.fixing(t, n.named(name)))
	}
	for _, j := range l {
		out, _ := apart.run(t, j)
		outs += out
	}
	if outs != isDone+isNeither+isDone+isNeither || whole(apart.real) != "((L10 20 L20 30 *(L30 40 L40)) 50 (L50 60 L60 70 L70))" {
		t.Errorf("P12.1: %s, %s", outs, whole(apart.real))
	}

	n = made()
	one := newBoth(t, plenty(3), n)
	if out, _ := one.run(t, thenJob(l...)); out != outs || one.dump(one.real) != apart.dump(apart.real) {
		t.Errorf("P12.1: in one work they come to %s, %s", out, whole(one.real))
	}
}

// TestKeysStay: of some trees tagged nodes go in some order, till none is there: each key goes to its leaf each time, and all leaves lie equally deep.
func TestKeysStay(t *testing.T) {
	r := rand.New(rand.NewSource(12))
	for i := range 80 {
		b := 3 + i%3
		n := someTree(r, 1+i%3, min(b, 5-i%3))
		w := newBoth(t, setting{b, 600, 600}, n)
		keys := n.nearby()
		was := lies(t, w.real, keys)
		for {
			l := slices.DeleteFunc(spots(w.real), func(s spot) bool { return !s.tagged })
			if len(l) == 0 {
				break
			}
			s := l[r.Intn(len(l))]
			p := w.start(s.fix())
			for !p.ended() {
				p.stepUnheld()
			}
			if want := s.below; (p.out == isNeither) != want || (p.out == isDone) == want {
				t.Fatalf("P12.1: below one that is tagged: %t, and it comes to %s", want, p.out)
			}
			if !slices.Equal(lies(t, w.real, keys), was) {
				t.Fatalf("P12.1: a key goes to another leaf in %s", whole(w.real))
			}
		}
		w.hold(t)
		all := spots(w.real)
		for _, s := range all {
			if s.ways > b {
				t.Errorf("P12.1: a node has %d ways: %s", s.ways, whole(w.real))
			}
		}
		if used := w.real.Arena.Used(); used != len(all)+1+w.real.Epochs.Limbo() {
			t.Errorf("P12.1: %d places are used, %d nodes are there, %d wait", used, len(all)+1, w.real.Epochs.Limbo())
		}
		w.noFaults(t)
		w.stop()
	}
}
