package degree

import (
	"fmt"
	"math/rand"
	"slices"
	"strings"
	"testing"

	"boscage/arena"
	"boscage/record"
	"boscage/ref"
	"boscage/tag"
	"boscage/thread"
	"boscage/world"
)

// TestExamples: leaves of one and of five pairs, A being 2: they become three and three. Leaves of one and two: one leaf of three.
func TestExamples(t *testing.T) {
	for _, c := range []struct {
		tree *tree
		want string
	}{
		{over("p", run("n", 1, 1), run("s", 10, 5)), "([1 10 11] 12 [12 13 14])"},
		{over("p", run("s", 1, 5), run("n", 10, 1)), "([1 2 3] 4 [4 5 10])"},
		{over("p", run("n", 1, 1), run("s", 10, 2)), "[1 10 11]"},
		{over("p", run("s", 1, 2), run("n", 10, 1)), "[1 2 10]"},
	} {
		w := newBoth(t, plenty(2, 6), c.tree)
		if out, _ := w.run(t, w.fixing(t, c.tree.named("n"))); out != isDone || whole(w.real) != c.want {
			t.Errorf("P13.1: %s, %s, not %s", out, whole(w.real), c.want)
		}
		w.noFaults(t)
	}
}

// kind is a tree, of which the node n is to be fixed, A being 2, B 3; how many nodes that makes.
type kind struct {
	made  func() *tree
	makes int
}

// all are trees of each kind that Fix goes by; s is the node beside n, or below it, if n is the root.
func all() []kind {
	return []kind{
		{leafRoot, 1}, {innerRoot, 1}, {tagRoot, 1}, {meets, 1}, {meetsInner, 1}, {joins, 2}, {joinsDeep, 2}, {joinsInner, 2}, {shares, 3}, {sharesDeep, 3}, {sharesInner, 3},
	}
}

func leafRoot() *tree  { return in("n", nil, run("s", 10, 2)) }
func innerRoot() *tree { return in("n", nil, wide("s", 10, 2)) }
func tagRoot() *tree   { return in("n", nil, wide("s", 10, 2).tag()) }

// meets: both become the root.
func meets() *tree { return over("p", run("n", 10, 1), run("s", 20, 2)) }

func meetsInner() *tree { return in("p", ks(17), wide("n", 10, 1), wide("s", 20, 2)) }

// joins: both become one node.
func joins() *tree { return over("p", run("s", 10, 2), run("n", 20, 1), run("r", 30, 2)) }

func joinsDeep() *tree {
	return over("g", wide("q", 10, 2), over("p", run("s", 30, 2), run("n", 40, 1)), wide("r", 50, 2))
}

func joinsInner() *tree {
	return over("g", in("p", ks(17), wide("n", 10, 1), wide("s", 20, 2)), over("q", wide("", 40, 2), wide("", 60, 2)))
}

// shares: each gets a half.
func shares() *tree { return over("p", run("n", 10, 1), run("s", 20, 3)) }

func sharesDeep() *tree {
	return over("g", wide("q", 10, 2), over("p", run("r", 30, 2), run("s", 40, 3), run("n", 50, 1)), wide("u", 60, 2))
}

func sharesInner() *tree {
	return over("g", over("q", wide("", 10, 2), wide("", 30, 2)), in("p", ks(77, 97), wide("s", 50, 3), wide("n", 80, 1), wide("r", 100, 2)))
}

// byHand is a tree, of which the node n is fixed; all else is what comes of it.
type byHand struct {
	a, b  int
	tree  *tree
	want  string
	left  string // who waits to be freed
	made  int    // how many nodes were made
	steps int    // how many touches there are
	up    int    // how many levels went
}

// The touches of one Load are five, and one of each way. Those of a Store of n nodes are one for the record, one of each node, SetAll, a mark of each but the first, the way, Set. Those of Leave are two a node.
func hands() []byHand {
	const (
		three = 9 + 4
		four  = 11 + 6
		leafs = 5 + 5
	)
	root := func(below *tree, want string, ways, up int) byHand {
		return byHand{2, 3, in("n", nil, below), want, " 0:n@3 0:s@3", 1, 6 + 6 + 5 + ways + 1 + three, up}
	}
	ahead, behind := " 0:p@3 0:n@3 0:s@3", " 0:p@3 0:s@3 0:n@3"
	return []byHand{
		// A root with one way: leaves of each size, inner nodes, tagged or not.
		root(lf("s"), "[]", 0, 1),
		root(run("s", 10, 1), "[10]", 0, 1),
		root(run("s", 10, 3), "[10 11 12]", 0, 1),
		root(run("s", 10, 2).tag(), "[10 11]", 0, 1),
		root(wide("s", 10, 1), "([10 11])", 1, 1),
		root(wide("s", 10, 3), "([10 11] 20 [20 21] 30 [30 31])", 3, 1),
		root(wide("s", 10, 2).tag(), "([10 11] 20 [20 21])", 2, 0),
		root(in("s", ks(17), run("", 10, 2), wide("", 20, 2).tag()), "([10 11] 17 *([20 21] 30 [30 31]))", 2, 1),
		// Fewer than 2 A together, below the root with two ways: what is made is the root.
		{2, 3, over("p", run("n", 10, 1), run("s", 20, 2)), "[10 20 21]", ahead, 1, 6 + 7 + leafs + 1 + four, 1},
		{2, 3, over("p", run("s", 10, 2), run("n", 20, 1)), "[10 11 20]", behind, 1, 6 + 7 + leafs + 1 + four, 1},
		{2, 3, in("p", ks(17), lf("n"), run("s", 20, 3)), "[20 21 22]", ahead, 1, 6 + 7 + leafs + 1 + four, 1},
		{2, 3, in("p", ks(17), run("s", 10, 1), lf("n")), "[10]", behind, 1, 6 + 7 + leafs + 1 + four, 1},
		{2, 3, in("p", ks(17), lf("n"), lf("s")), "[]", ahead, 1, 6 + 7 + leafs + 1 + four, 1},
		{3, 5, over("p", run("n", 10, 2), run("s", 20, 3)), "[10 11 20 21 22]", ahead, 1, 6 + 7 + leafs + 1 + four, 1},
		{2, 3, in("p", ks(17), wide("n", 10, 1), wide("s", 20, 2)), "([10 11] 17 [20 21] 30 [30 31])", ahead, 1, 6 + 7 + 6 + 7 + 1 + four, 1},
		{2, 3, in("p", ks(28), wide("s", 10, 2), wide("n", 30, 1)), "([10 11] 20 [20 21] 28 [30 31])", behind, 1, 6 + 7 + 7 + 6 + 1 + four, 1},
		// The root has three ways: it stays.
		{2, 3, over("p", run("n", 10, 1), run("s", 20, 2), run("r", 30, 2)), "([10 20 21] 30 [30 31])", ahead, 2, 6 + 8 + leafs + 2 + four, 0},
		{2, 3, over("p", run("s", 10, 2), run("n", 20, 1), run("r", 30, 3)), "([10 11 20] 30 [30 31 32])", behind, 2, 6 + 8 + leafs + 2 + four, 0},
		{2, 3, over("p", run("r", 10, 1), run("s", 20, 2), run("n", 30, 1)), "([10] 20 [20 21 30])", behind, 2, 6 + 8 + leafs + 2 + four, 0},
		{2, 3, in("p", ks(17, 37), wide("n", 10, 1), wide("s", 20, 2), wide("r", 40, 2)), "(([10 11] 17 [20 21] 30 [30 31]) 37 ([40 41] 50 [50 51]))", ahead, 2, 6 + 8 + 6 + 7 + 2 + four, 0},
		{2, 3, in("p", ks(28, 37), wide("s", 10, 2), wide("n", 30, 1), wide("r", 40, 2)), "(([10 11] 20 [20 21] 28 [30 31]) 37 ([40 41] 50 [50 51]))", behind, 2, 6 + 8 + 7 + 6 + 2 + four, 0},
		// It isn't the root: it stays with one way.
		{2, 3, over("g", over("p", run("n", 10, 1), run("s", 20, 2)), wide("q", 30, 2)), "(([10 20 21]) 30 ([30 31] 40 [40 41]))", ahead, 2, 7 + 7 + leafs + 2 + four, 0},
		{2, 3, over("g", wide("q", 10, 3), over("p", run("s", 40, 2), run("n", 50, 1))), "(([10 11] 20 [20 21] 30 [30 31]) 40 ([40 41 50]))", behind, 2, 7 + 7 + leafs + 2 + four, 0},
		{2, 3, joinsInner(), "((([10 11] 17 [20 21] 30 [30 31])) 40 (([40 41] 50 [50 51]) 60 ([60 61] 70 [70 71])))", ahead, 2, 7 + 7 + 6 + 7 + 2 + four, 0},
		// Just 2 A together: each gets a half.
		{2, 3, over("p", run("n", 10, 1), run("s", 20, 3)), "([10 20] 21 [21 22])", ahead, 3, 6 + 7 + leafs + 3 + four, 0},
		{2, 3, over("p", run("s", 10, 3), run("n", 20, 1)), "([10 11] 12 [12 20])", behind, 3, 6 + 7 + leafs + 3 + four, 0},
		{2, 4, in("p", ks(17), lf("n"), run("s", 20, 4)), "([20 21] 22 [22 23])", ahead, 3, 6 + 7 + leafs + 3 + four, 0},
		{3, 5, over("p", run("n", 10, 2), run("s", 20, 4)), "([10 11 20] 21 [21 22 23])", ahead, 3, 6 + 7 + leafs + 3 + four, 0},
		{2, 3, in("p", ks(17), wide("n", 10, 1), wide("s", 20, 3)), "(([10 11] 17 [20 21]) 30 ([30 31] 40 [40 41]))", ahead, 3, 6 + 7 + 6 + 8 + 3 + four, 0},
		{2, 3, in("p", ks(38), wide("s", 10, 3), wide("n", 40, 1)), "(([10 11] 20 [20 21]) 30 ([30 31] 38 [40 41]))", behind, 3, 6 + 7 + 8 + 6 + 3 + four, 0},
		// One more: the rest is the greater half.
		{2, 4, over("p", run("n", 10, 1), run("s", 20, 4)), "([10 20] 21 [21 22 23])", ahead, 3, 6 + 7 + leafs + 3 + four, 0},
		{2, 4, over("p", run("s", 10, 4), run("n", 20, 1)), "([10 11] 12 [12 13 20])", behind, 3, 6 + 7 + leafs + 3 + four, 0},
		{2, 4, in("p", ks(17), wide("n", 10, 1), wide("s", 20, 4)), "(([10 11] 17 [20 21]) 30 ([30 31] 40 [40 41] 50 [50 51]))", ahead, 3, 6 + 7 + 6 + 9 + 3 + four, 0},
		// At the first, a middle, the last way, below another node.
		{2, 3, over("g", wide("q", 10, 2), over("p", run("n", 30, 1), run("s", 40, 3), run("r", 50, 1))), "(([10 11] 20 [20 21]) 30 ([30 40] 41 [41 42] 50 [50]))", ahead, 3, 7 + 8 + leafs + 3 + four, 0},
		{2, 3, over("g", wide("q", 10, 2), over("p", run("s", 30, 3), run("n", 40, 1), run("r", 50, 3))), "(([10 11] 20 [20 21]) 30 ([30 31] 32 [32 40] 50 [50 51 52]))", behind, 3, 7 + 8 + leafs + 3 + four, 0},
		{2, 3, sharesDeep(), "(([10 11] 20 [20 21]) 30 ([30 31] 40 [40 41] 42 [42 50]) 60 ([60 61] 70 [70 71]))", behind, 3, 8 + 8 + leafs + 3 + four, 0},
		{2, 3, sharesInner(), "((([10 11] 20 [20 21]) 30 ([30 31] 40 [40 41])) 50 (([50 51] 60 [60 61]) 70 ([70 71] 77 [80 81]) 97 ([100 101] 110 [110 111])))", behind, 3, 7 + 8 + 8 + 6 + 3 + four, 0},
		// Tagged nodes further away, and below both, stay as they are.
		{2, 3, over("p", run("n", 10, 1), run("s", 20, 2), wide("r", 30, 2).tag()), "([10 20 21] 30 *([30 31] 40 [40 41]))", ahead, 2, 6 + 8 + leafs + 2 + four, 0},
		{2, 3, in("p", ks(17), in("n", nil, wide("", 10, 2).tag()), wide("s", 30, 2)), "(*([10 11] 20 [20 21]) 17 [30 31] 40 [40 41])", ahead, 1, 6 + 7 + 6 + 7 + 1 + four, 1},
		// Three levels above.
		{2, 3, over("h", over("g", over("p", run("n", 10, 1), run("s", 20, 2)), wide("q", 30, 2)), over("r", wide("", 50, 2), wide("", 70, 2))),
			"((([10 20 21]) 30 ([30 31] 40 [40 41])) 50 (([50 51] 60 [60 61]) 70 ([70 71] 80 [80 81])))", ahead, 2, 7 + 7 + leafs + 2 + four, 0},
	}
}

func TestByHand(t *testing.T) {
	for i, c := range hands() {
		w := newBoth(t, plenty(c.a, c.b), c.tree)
		keys := c.tree.nearby()
		was, deep := found(w.real, keys)
		out, steps := w.run(t, w.fixing(t, c.tree.named("n")))
		if out != isDone || whole(w.real) != c.want || steps != c.steps {
			t.Errorf("P13.1: case %d: %s, %s behind %d touches, not %s behind %d", i, out, whole(w.real), steps, c.want, c.steps)
		}
		if got, now := found(w.real, keys); !slices.Equal(got, was) || now != deep-c.up {
			t.Errorf("P13.1: case %d: keys are found with %v, not %v; leaves lie %d deep, not %d", i, got, was, now, deep-c.up)
		}
		if used, want := w.real.Arena.Used(), len(c.tree.nodes())+1+c.made; used != want {
			t.Errorf("P13.1: case %d: %d places are used, not %d", i, used, want)
		}
		if left := w.holdWaits(t); left != c.left {
			t.Errorf("P13.1: case %d: there wait%s, not%s", i, left, c.left)
		}
		w.noFaults(t)
	}
}

// TestMarks: p and both (of a root it, and what is below) are marked then, all others aren't; one record was made, that is done.
func TestMarks(t *testing.T) {
	for i, c := range hands() {
		w := newBoth(t, plenty(c.a, c.b), c.tree)
		w.run(t, w.fixing(t, c.tree.named("n")))
		nodes := 1
		for _, o := range c.tree.nodes() {
			goes := o.name == "p" || o.name == "n" || o.name == "s"
			if goes {
				nodes++
			}
			if w.real.Arena.Mark(o.ref) != goes {
				t.Errorf("P13.1: case %d: node %s: marked is %t", i, o.name, w.real.Arena.Mark(o.ref))
			}
		}
		if w.real.Arena.Mark(w.real.Entry) || w.real.Records.Len() != 1 || w.real.Records.State(1) != record.Done {
			t.Errorf("P13.1: case %d: %d records", i, w.real.Records.Len())
		}
		if got := w.real.Records.Look(1); got.Keep != 1 || len(got.Nodes) != nodes {
			t.Errorf("P13.1: case %d: the record is %v", i, got)
		}
	}
}

// load is the touches of a Load of a node of some ways.
func load(name string, ways int) string {
	return fmt.Sprintf("Mark %s, Info %s, State, Mark %s, %sInfo %s, ", name, name, name, strings.Repeat("Way "+name+", ", ways), name)
}

// holdTouches does a Fix of the node n, and holds its touches.
func holdTouches(t *testing.T, c setting, n *tree, out, want string) {
	t.Helper()
	w := newBoth(t, c, n)
	p := w.start(w.fixing(t, n.named("n")))
	if got, _ := p.run(t); got != out || p.twin.touches() != want {
		t.Errorf("P13.1: %s:\n%s, not %s:\n%s", got, p.twin.touches(), out, want)
	}
	w.noFaults(t)
}

// storeOf is the touches of a Store of some nodes, and then of Leave of all but the first.
func storeOf(names ...string) string {
	out := "Record, "
	for _, name := range names {
		out += "SwapInfo " + name + ", "
	}
	out += "SetAll, "
	for _, name := range names[1:] {
		out += "SetMark " + name + ", "
	}
	out += "SwapWay " + names[0] + ", Set, "
	for _, name := range names[1:] {
		out += "Now, Leave " + name + ", "
	}
	return out
}

// TestTouchesByHand: what each touch is, in order. (The twin is held against the package at each of them, and with others' changes ahead of each of them.)
func TestTouchesByHand(t *testing.T) {
	root := load("entry", 1) + load("n", 1)
	holdTouches(t, plenty(2, 3), leafRoot(), isDone, root+load("s", 0)+"Alloc, "+storeOf("entry", "n", "s"))
	holdTouches(t, plenty(2, 3), innerRoot(), isDone, root+load("s", 2)+"Alloc, "+storeOf("entry", "n", "s"))
	holdTouches(t, plenty(2, 3), tagRoot(), isDone, root+load("s", 2)+"Alloc, "+storeOf("entry", "n", "s"))
	two, three := load("entry", 1)+load("p", 2), load("entry", 1)+load("p", 3)
	holdTouches(t, plenty(2, 3), meets(), isDone, two+load("n", 0)+load("s", 0)+"Alloc, "+storeOf("entry", "p", "n", "s"))
	holdTouches(t, plenty(2, 3), meetsInner(), isDone, two+load("n", 1)+load("s", 2)+"Alloc, "+storeOf("entry", "p", "n", "s"))
	holdTouches(t, plenty(2, 3), joins(), isDone, three+load("s", 0)+load("n", 0)+"Alloc, Alloc, "+storeOf("entry", "p", "s", "n"))
	holdTouches(t, plenty(2, 3), joinsDeep(), isDone, load("g", 3)+load("p", 2)+load("s", 0)+load("n", 0)+"Alloc, Alloc, "+storeOf("g", "p", "s", "n"))
	holdTouches(t, plenty(2, 3), joinsInner(), isDone, load("g", 2)+load("p", 2)+load("n", 1)+load("s", 2)+"Alloc, Alloc, "+storeOf("g", "p", "n", "s"))
	holdTouches(t, plenty(2, 3), shares(), isDone, two+load("n", 0)+load("s", 0)+"Alloc, Alloc, Alloc, "+storeOf("entry", "p", "n", "s"))
	holdTouches(t, plenty(2, 3), sharesDeep(), isDone, load("g", 3)+load("p", 3)+load("s", 0)+load("n", 0)+"Alloc, Alloc, Alloc, "+storeOf("g", "p", "s", "n"))
	holdTouches(t, plenty(2, 3), sharesInner(), isDone, load("g", 2)+load("p", 3)+load("s", 3)+load("n", 1)+"Alloc, Alloc, Alloc, "+storeOf("g", "p", "s", "n"))
	// Nodes of the tree have the places up to there.
	holdTouches(t, setting{2, 3, 3, 0}, leafRoot(), isNone, root+load("s", 0)+"Alloc, Record, Free #3, ")
	holdTouches(t, setting{2, 3, 3, 0}, meets(), isNone, two+load("n", 0)+load("s", 0)+"Alloc, Record, Free #4, ")
	holdTouches(t, setting{2, 3, 3, 0}, joins(), isNone, three+load("s", 0)+load("n", 0)+"Alloc, Alloc, Record, Free #5, Free #6, ")
	holdTouches(t, setting{2, 3, 3, 0}, shares(), isNone, two+load("n", 0)+load("s", 0)+"Alloc, Alloc, Alloc, Record, Free #4, Free #5, Free #6, ")
}

// sized is a tree in which n has some entries, and s beside it; what it is to come to.
type sized struct {
	a, b        int
	small, many int // how many entries n has, and s
	ways, at    int // how many ways p has; n is at this one
	inner, deep bool
}

// part is a leaf of so many keys, or an inner node of so many leaves, from a key on.
func (c sized) part(name string, from int64, n int) *tree {
	if c.inner {
		return wide(name, from, n)
	}
	return run(name, from, n)
}

// partShape is what part is, of the keys, or the leaves, of several parts.
func (c sized) partShape(from []int64) string {
	out := ""
	for i, k := range from {
		if i > 0 {
			out += " "
		}
		if !c.inner {
			out += fmt.Sprint(k)
			continue
		}
		if i > 0 {
			out += fmt.Sprint(k, " ")
		}
		out += fmt.Sprintf("[%d %d]", k, k+1)
	}
	if c.inner {
		return "(" + out + ")"
	}
	return "[" + out + "]"
}

// firsts are the keys, or the leaves' first keys, of a part.
func (c sized) firsts(from int64, n int) []int64 {
	step := int64(1)
	if c.inner {
		step = 10
	}
	var out []int64
	for i := range int64(n) {
		out = append(out, from+step*i)
	}
	return out
}

// wanted: p's ways behind Fix, and how many nodes are made.
func (c sized) wanted() (want string, made int) {
	beside := c.at - 1
	if c.at == 0 {
		beside = 1
	}
	first := min(c.at, beside)
	var parts [][]int64
	for i := range c.ways {
		n := c.a
		switch i {
		case c.at:
			n = c.small
		case beside:
			n = c.many
		}
		parts = append(parts, c.firsts(int64(1000*i), n))
	}
	all := slices.Concat(parts[first], parts[first+1])
	keys := []int64{}
	for i := 1; i < c.ways; i++ {
		keys = append(keys, int64(1000*i))
	}
	if len(all) >= 2*c.a {
		half := len(all) / 2
		parts[first], parts[first+1], keys[first] = all[:half], all[half:], all[half]
		made = 3
	} else {
		parts = slices.Concat(parts[:first], [][]int64{all}, parts[first+2:])
		keys = slices.Delete(keys, first, first+1)
		if len(parts) == 1 && !c.deep {
			return c.partShape(all), 1
		}
		made = 2
	}
	for i, part := range parts {
		if i > 0 {
			want += fmt.Sprint(" ", keys[i-1], " ")
		}
		want += c.partShape(part)
	}
	return "(" + want + ")", made
}

// hold fixes n, with just as much room, and as many records, as are needed.
func (c sized) hold(t *testing.T) {
	t.Helper()
	var l []*tree
	for i := range c.ways {
		name, n := "r", c.a
		switch {
		case i == c.at:
			name, n = "n", c.small
		case i == c.at-1 || c.at == 0 && i == 1:
			name, n = "s", c.many
		}
		l = append(l, c.part(name, int64(1000*i), n))
	}
	p := in("p", nil, l...)
	for i := 1; i < c.ways; i++ {
		p.keys = append(p.keys, int64(1000*i))
	}
	want, made := c.wanted()
	all := p
	if c.deep {
		other := in("q", ks(90010), c.part("", 90000, c.a), c.part("", 91000, c.a))
		all = in("g", ks(90000), p, other)
		want = fmt.Sprintf("(%s 90000 (%s 90010 %s))", want, c.partShape(c.firsts(90000, c.a)), c.partShape(c.firsts(91000, c.a)))
	}
	w := newBoth(t, setting{c.a, c.b, made, 1}, all)
	defer w.stop()
	if out, _ := w.start(w.fixing(t, all.named("n"))).runUnheld(t); out != isDone || whole(w.real) != want {
		t.Errorf("P13.1: %+v: %s, %s, not %s", c, out, whole(w.real), want)
	}
	w.noFaults(t)
}

// some are a few of the numbers from a least one up to a greatest one.
func some(least, most int) []int {
	var out []int
	for i := least; i <= most; i++ {
		if i < least+2 || i > most-2 || i == (least+most)/2 {
			out = append(out, i)
		}
	}
	return out
}

// TestSizes: numbers of entries of all kinds, A at its least and at its greatest and between, at the first, a middle and the last way.
func TestSizes(t *testing.T) {
	for _, c := range []sized{{a: 2, b: 3}, {a: 2, b: 6}, {a: 3, b: 5}, {a: 4, b: 9}, {a: 16, b: 31}, {a: 16, b: 32}, {a: 2, b: 32}} {
		for _, ways := range slices.Compact([]int{2, 3, 5}) {
			for at := range ways {
				for i := range 4 {
					c.ways, c.at, c.inner, c.deep = ways, at, i%2 == 1, i/2 == 1
					if !(c.a == 2 || ways < 5 && c.b < 32) {
						continue
					}
					c.holdAll(t)
				}
			}
		}
	}
}

func (c sized) holdAll(t *testing.T) {
	t.Helper()
	least := 0
	if c.inner {
		least = 1
	}
	for _, c.small = range some(least, c.a-1) {
		// Just 2 A entries together, and one less, one more.
		for _, c.many = range slices.Concat(some(least, c.b), []int{2*c.a - c.small - 1, 2*c.a - c.small, 2*c.a - c.small + 1}) {
			if least <= c.many && c.many <= c.b {
				c.hold(t)
			}
		}
	}
}

// TestWaysThen: ways are as they are when the nodes are loaded, not as they were made.
func TestWaysThen(t *testing.T) {
	for _, c := range []struct {
		tree *tree
		want string
		at   []string // nodes of which a way, the last one, goes to another leaf by then
	}{
		{innerRoot(), "([10 11] 20 [99])", []string{"s"}},
		{meetsInner(), "([98] 17 [20 21] 30 [99])", []string{"s", "n"}},
		{joins(), "([10 11 20] 30 [99])", []string{"p"}},
		{joinsInner(), "((([98] 17 [20 21] 30 [99])) 40 (([40 41] 50 [50 51]) 60 ([60 61] 70 [97])))", []string{"s", "n", "q/"}},
		{sharesInner(), "((([10 11] 20 [20 21]) 30 ([30 31] 40 [40 41])) 50 (([50 51] 60 [60 61]) 70 ([99] 77 [98]) 97 ([100 101] 110 [97])))", []string{"s", "n", "r"}},
	} {
		w := newBoth(t, plenty(2, 3), c.tree)
		key := int64(99)
		for _, name := range c.at {
			n := c.tree.named(strings.TrimSuffix(name, "/"))
			if strings.HasSuffix(name, "/") {
				n = n.below[len(n.below)-1]
			}
			w.leads(n.ref, len(n.below)-1, w.add(t, lf("", key).node()))
			key--
		}
		if out, _ := w.run(t, w.fixing(t, c.tree.named("n"))); out != isDone || whole(w.real) != c.want {
			t.Errorf("P13.1: %s, %s, not %s", out, whole(w.real), c.want)
		}
	}
	// The node below a root is the one that is there then; so is the one beside, and p below g, and the one beside p.
	n := leafRoot()
	w := newBoth(t, plenty(2, 3), n)
	w.leads(n.ref, 0, w.addTree(t, run("", 77, 3)))
	if out, _ := w.run(t, w.fixing(t, n)); out != isDone || whole(w.real) != "[77 78 79]" {
		t.Errorf("P13.1: %s, %s", out, whole(w.real))
	}
	n = shares()
	w = newBoth(t, plenty(2, 3), n)
	w.leads(n.ref, 1, w.addTree(t, run("", 20, 2)))
	if out, _ := w.run(t, w.fixing(t, n.named("n"))); out != isDone || whole(w.real) != "[10 20 21]" {
		t.Errorf("P13.1: %s, %s", out, whole(w.real))
	}
	n = sharesDeep()
	w = newBoth(t, plenty(2, 3), n)
	w.leads(n.ref, 0, w.addTree(t, wide("", 1, 2)))
	w.leads(n.ref, 1, w.addTree(t, over("", run("", 30, 1), run("", 40, 1))))
	p := w.real.Arena.Way(n.ref, 1)
	up, way := w.upTo(t, w.real.Arena.Way(p, 1))
	if out, _ := w.run(t, fixJob(up, way, w.real.Arena.Way(p, 1))); out != isDone || whole(w.real) != "(([1 2] 11 [11 12]) 30 ([30 40]) 60 ([60 61] 70 [70 71]))" {
		t.Errorf("P13.1: %s, %s", out, whole(w.real))
	}
}

// TestWayHandedIn: which way of p the node is tells the way handed in, not the key by which up was gone.
func TestWayHandedIn(t *testing.T) {
	for _, c := range all() {
		n := c.made()
		alone := newBoth(t, plenty(2, 3), n)
		alone.run(t, alone.fixing(t, n.named("n")))
		if n.name == "n" {
			continue
		}
		for other := range n.named("p").below {
			n := c.made()
			w := newBoth(t, plenty(2, 3), n)
			up, way := w.upTo(t, n.named("n").ref)
			up[len(up)-1].Way = other
			if out, _ := w.run(t, fixJob(up, way, n.named("n").ref)); out != isDone || whole(w.real) != whole(alone.real) {
				t.Errorf("P13.1: by way %d: %s, %s, not %s", other, out, whole(w.real), whole(alone.real))
			}
			w.noFaults(t)
		}
	}
}

// TestBehindAPath: up as chapter 11 tells it, in the same thread's work.
func TestBehindAPath(t *testing.T) {
	for _, c := range all() {
		n := c.made()
		apart := newBoth(t, plenty(2, 3), n)
		apart.run(t, apart.fixing(t, n.named("n")))

		n = c.made()
		w := newBoth(t, plenty(2, 3), n)
		if out, _ := w.run(t, mendJob(n.named("n").first(), 1)); out != isDone || whole(w.real) != whole(apart.real) {
			t.Errorf("P13.1: %s, %s, not %s", out, whole(w.real), whole(apart.real))
		}
	}
}

// TestOneBehindTheOther: several in one work come to the same as each in its own.
func TestOneBehindTheOther(t *testing.T) {
	made := func() *tree {
		return over("g", over("p", run("n", 10, 1), run("m", 20, 1), run("s", 30, 3)), over("q", run("o", 40, 2), run("k", 50, 1)))
	}
	n := made()
	apart := newBoth(t, plenty(2, 3), n)
	outs := ""
	var l []job
	for _, name := range []string{"n", "k", "m", "k", "q"} {
		l = append(l, apart.fixing(t, n.named(name)))
	}
	for _, j := range l {
		out, _ := apart.run(t, j)
		outs += out
	}
	// m went with n, k went; q went with k.
	if outs != isDone+isDone+isNeither+isNeither+isNeither || whole(apart.real) != "(([10 20] 30 [30 31 32]) 40 ([40 41 50]))" {
		t.Errorf("P13.1: %s, %s", outs, whole(apart.real))
	}

	n = made()
	one := newBoth(t, plenty(2, 3), n)
	if out, _ := one.run(t, thenJob(l...)); out != outs || one.dump(one.real) != apart.dump(apart.real) {
		t.Errorf("P13.1: in one work they come to %s, %s", out, whole(one.real))
	}
}

// besideTagged are trees in which the node beside n is tagged: it fits into p, or p is halved; below the entry, or not.
func besideTagged() []func() *tree {
	first := func() *tree { return over("p", run("n", 10, 1), wide("s", 20, 2).tag()) }
	last := func() *tree { return over("p", wide("s", 10, 2).tag(), run("n", 30, 1)) }
	between := func() *tree { return over("p", wide("s", 10, 2).tag(), run("n", 30, 1), run("r", 40, 2)) }
	inner := func() *tree {
		return over("p", in("n", nil, wide("", 10, 1)), over("s", wide("", 30, 2), wide("", 50, 2)).tag(), wide("r", 70, 2))
	}
	deep := func() *tree { return over("g", wide("q", 1, 2), over("p", wide("s", 30, 2).tag(), run("n", 50, 1))) }
	halved := func() *tree {
		return over("g", over("p", run("n", 10, 1), wide("s", 20, 3).tag(), run("r", 50, 2)), wide("q", 60, 2))
	}
	return []func() *tree{first, last, between, inner, deep, halved}
}

// TestBesideIsTagged: that one goes, as chapter 12 has it, with its answer; the touches behind those of g and p are its.
func TestBesideIsTagged(t *testing.T) {
	for i, made := range besideTagged() {
		for left := range 4 {
			for records := range 2 {
				c := setting{2, 3, left, records}
				n := made()
				w := newBoth(t, c, n)
				keys := n.nearby()
				was, deep := found(w.real, keys)
				up, _ := w.upTo(t, n.named("n").ref)
				ahead := 0
				for _, s := range up[len(up)-2:] {
					ahead += 5 + len(s.Node.Ways.Ways)
				}
				out, steps := w.run(t, w.fixing(t, n.named("n")))
				if got, now := found(w.real, keys); !slices.Equal(got, was) || now != deep && whole(w.real)[:2] != "((" {
					t.Errorf("P13.1: tree %d: keys are found with %v, not %v, %d deep, not %d", i, got, was, now, deep)
				}

				n = made()
				other := newBoth(t, c, n)
				want, touches := untagBeside(t, other, n)
				if out != want || steps != ahead+touches || w.dump(w.real) != other.dump(other.real) {
					t.Errorf("P13.1: tree %d, %d places and %d records: %s behind %d touches, %s; not %s behind %d, %s", i, left, records, out, steps, whole(w.real), want, ahead+touches, whole(other.real))
				}
				if left == 3 && records == 1 && out != isDone {
					t.Errorf("P13.1: tree %d: %s", i, out)
				}
				w.noFaults(t)
			}
		}
	}
}

// untagBeside is chapter 12's Fix of the node s, in the first of both worlds alone: what it comes to, and its touches.
func untagBeside(t *testing.T, b *both, n *tree) (string, int) {
	t.Helper()
	up, way := b.upTo(t, n.named("s").ref)
	known := b.real.Arena.Used()
	out := ""
	x := thread.New(func(x *thread.Thread) []int64 {
		done, none := tag.Fix(world.Task{Thread: x, World: b.real}, up, way, n.named("s").ref)
		out = tell(done, none)
		return nil
	})
	for !x.Step() {
	}
	// The nodes that were made have the places behind the tree's.
	for i := known; i < b.real.Arena.Used(); i++ {
		b.live = append(b.live, ref.Of(i, 1))
	}
	return out, x.Steps()
}

// TestBesideIsTaggedThen: it is the node that is there when p is loaded, of which it is asked.
func TestBesideIsTaggedThen(t *testing.T) {
	n := shares()
	w := newBoth(t, plenty(2, 5), n)
	w.leads(n.ref, 1, w.addTree(t, wide("", 20, 2).tag()))
	if out, _ := w.run(t, w.fixing(t, n.named("n"))); out != isDone || whole(w.real) != "([10] 20 [20 21] 30 [30 31])" {
		t.Errorf("P13.1: %s, %s", out, whole(w.real))
	}
	n = besideTagged()[0]()
	w = newBoth(t, plenty(2, 5), n)
	w.leads(n.ref, 1, w.addTree(t, run("", 20, 2)))
	if out, _ := w.run(t, w.fixing(t, n.named("n"))); out != isDone || whole(w.real) != "[10 20 21]" {
		t.Errorf("P13.1: %s, %s", out, whole(w.real))
	}
	// The other one beside the node isn't asked.
	n = over("p", run("s", 10, 2), run("n", 20, 1), wide("r", 30, 2).tag())
	w = newBoth(t, plenty(2, 5), n)
	if out, _ := w.run(t, w.fixing(t, n.named("n"))); out != isDone || whole(w.real) != "([10 11 20] 30 *([30 31] 40 [40 41]))" {
		t.Errorf("P13.1: %s, %s", out, whole(w.real))
	}
}

// TestKeysStay: of some trees what is wrong goes in some order, till nothing is: each key is found as ahead of it each time, and the leaves lie as deep (one less where the root went).
func TestKeysStay(t *testing.T) {
	r := rand.New(rand.NewSource(13))
	for i := range 80 {
		holdMended(t, r, 2+i%3/2, i%2 == 1)
	}
}

func holdMended(t *testing.T, r *rand.Rand, a int, tags bool) {
	t.Helper()
	b := 2*a - 1 + r.Intn(2)
	n := (&grower{r: r, a: a, b: b, tags: tags}).someTree(1 + r.Intn(3))
	w := newBoth(t, setting{a, b, 900, 900}, n)
	keys := n.nearby()
	was, deep := found(w.real, keys)
	for {
		s, ok := w.someWrong(r)
		if !ok {
			break
		}
		out, _ := w.start(s.job()).runUnheld(t)
		if out != isDone {
			t.Fatalf("P13.1: it comes to %s in %s", out, whole(w.real))
		}
		// Where a tagged node goes, the root may be halved.
		got, now := found(w.real, keys)
		if !slices.Equal(got, was) || now != deep && !(len(s.up) <= 2 && (now == deep-1 || tags && now == deep+1)) {
			t.Fatalf("P13.1: keys are found with %v, not %v; leaves lie %d deep, not %d, in %s", got, was, now, deep, whole(w.real))
		}
		deep = now
	}
	w.holdBalanced(t)
	w.noFaults(t)
	w.stop()
}

// wrongSpot is where something is wrong, all above being right.
type wrongSpot struct{ spot }

func (s wrongSpot) job() job {
	if !s.node.Tagged {
		return s.fix()
	}
	return job{
		func(t world.Task) string { done, none := tag.Fix(t, s.up, s.way, s.ref); return tell(done, none) },
		func(p *twin) string { done, none := p.untag(s.up, s.way, s.ref); return tell(done, none) },
	}
}

// someWrong is one of the nodes that are wrong, the nodes above being right.
func (b *both) someWrong(r *rand.Rand) (wrongSpot, bool) {
	var l []wrongSpot
	for _, s := range spots(b.real) {
		isWrong := s.node.Tagged || few(b.real.A, s.node, len(s.up) == 1)
		if isWrong && wrong(b.real.A, s.up) == 0 {
			l = append(l, wrongSpot{s})
		}
	}
	if len(l) == 0 {
		return wrongSpot{}, false
	}
	return l[r.Intn(len(l))], true
}

// holdBalanced: no node is tagged, has too few entries or too many; all leaves lie equally deep; what isn't there any more waits.
func (b *both) holdBalanced(t *testing.T) {
	t.Helper()
	l := spots(b.real)
	leaves := -1
	for _, s := range l {
		n := len(s.node.Pairs)
		if s.node.Inner {
			n = len(s.node.Ways.Ways)
		}
		if s.node.Tagged || few(b.real.A, s.node, len(s.up) == 1) || n > b.real.B {
			t.Errorf("P13.1: a node of %d entries: %s", n, whole(b.real))
		}
		if !s.node.Inner && leaves >= 0 && len(s.up) != leaves {
			t.Errorf("P13.1: leaves lie %d and %d deep: %s", len(s.up), leaves, whole(b.real))
		}
		if !s.node.Inner {
			leaves = len(s.up)
		}
	}
	if used := b.real.Arena.Used(); used != len(l)+1+b.real.Epochs.Limbo() {
		t.Errorf("P13.1: %d places are used, %d nodes are there, %d wait", used, len(l)+1, b.real.Epochs.Limbo())
	}
}

// TestNodesStay: what went, and what is beside it, still is as it was made: nodes don't change but for ways, records, marks.
func TestNodesStay(t *testing.T) {
	for _, c := range all() {
		n := c.made()
		w := newBoth(t, plenty(2, 3), n)
		var was []arena.Node
		for _, o := range n.nodes() {
			was = append(was, w.real.Arena.Look(o.ref))
		}
		w.run(t, w.fixing(t, n.named("n")))
		for i, o := range n.nodes() {
			if got := w.real.Arena.Look(o.ref); tell(got) != tell(was[i]) {
				t.Errorf("P13.1: node %s is %+v, not %+v", o.name, got, was[i])
			}
		}
	}
}
