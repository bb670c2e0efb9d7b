package mend

import (
	"fmt"
	"math"
	"math/rand"
	"slices"
	"strings"
	"testing"

	"boscage/arena"
	"boscage/thread"
	"boscage/world"
)

// Trees in which something is wrong on the way to key 10, A being 2, B 3.
func leafRoot() *tree { return in("n", nil, run("s", 10, 2)) }
func tagRoot() *tree  { return in("n", nil, wide("s", 10, 2).tag()) }
func tagged() *tree   { return wide("n", 10, 2).tag() }
func tagBelow() *tree { return over("p", wide("n", 10, 2).tag(), run("s", 30, 2)) }
func meets() *tree    { return over("p", run("n", 10, 1), run("s", 20, 2)) }
func joins() *tree    { return over("p", run("s", 10, 2), run("n", 20, 1), run("r", 30, 2)) }
func shares() *tree   { return over("p", run("n", 10, 1), run("s", 20, 3)) }

func besideTagged() *tree { return over("p", run("n", 10, 1), wide("s", 20, 2).tag()) }

// twoFew: both have the same node beside; eachFew: each other.
func twoFew() *tree  { return over("p", run("n", 10, 1), run("s", 20, 2), run("m", 30, 1)) }
func eachFew() *tree { return over("p", run("n", 10, 1), run("m", 20, 1), run("r", 30, 3)) }

// climbs: where the leaf goes, the node above it has too few ways.
func climbs() *tree {
	return over("g", over("p", run("n", 10, 1), run("s", 20, 2)), over("q", run("r", 30, 2), run("m", 40, 2)))
}

// twice: what is tagged below the root is tagged, too.
func twice() *tree { return over("n", wide("m", 10, 2).tag(), run("r", 30, 2)).tag() }

// splits: where the tagged node goes, the one above is halved, and so is the root.
func splits() *tree {
	return over("g", over("p", run("r", 10, 2), wide("n", 20, 2).tag(), run("s", 40, 2)), wide("q", 60, 2), wide("u", 80, 2))
}

// TestExamples: of a world that is new: one touch, and false.
func TestExamples(t *testing.T) {
	w, _ := world.New(2, 3, 1, 9, 9)
	for _, key := range []int64{0, 5, math.MinInt64, math.MaxInt64} {
		noRoom := true
		x := thread.New(func(x *thread.Thread) []int64 {
			noRoom = Path(world.Task{Thread: x, World: w}, key)
			return nil
		})
		if !x.Step() || x.Steps() != 1 || noRoom {
			t.Errorf("P14.2: a world that is new: %t, %d touches", noRoom, x.Steps())
		}
	}
	if root := w.Arena.Look(w.Arena.Way(w.Entry, 0)); w.Arena.Used() != 2 || w.Records.Len() != 0 || w.Epochs.Limbo() != 0 || root.Inner || len(root.Pairs) != 0 {
		t.Errorf("P14.2: a world that is new has changed: %+v", root)
	}
}

// TestNothingWrong: one touch for each node above the leaf, and nothing is changed.
func TestNothingWrong(t *testing.T) {
	for _, c := range []struct {
		a, b  int
		tree  *tree
		inner int
	}{
		{2, 3, lf("n"), 1}, {2, 3, run("n", 10, 1), 1}, {2, 3, run("n", 10, 3), 1}, {16, 32, run("n", 10, 3), 1}, {16, 32, run("n", 10, 32), 1},
		{2, 3, wide("n", 10, 2), 2}, {2, 3, wide("n", 10, 3), 2},
		// The root may have fewer ways than A.
		{3, 5, over("n", run("", 10, 3), run("", 20, 5)), 2}, {16, 32, over("n", run("", 10, 16), run("", 50, 32)), 2},
		{2, 3, over("g", wide("p", 10, 2), wide("q", 30, 3)), 3},
		{2, 3, over("h", over("g", wide("", 10, 2), wide("", 30, 3)), over("", wide("", 70, 3), wide("", 100, 2))), 4},
		{2, 32, over("g", wide("p", 10, 32), wide("q", 1000, 2)), 3},
	} {
		for _, key := range append(c.tree.nearby(), math.MaxInt64) {
			w := newBoth(t, setting{c.a, c.b, 0, 0}, c.tree)
			was := w.dump(w.real)
			if out, steps := w.run(t, pathJob(key)); out != isMended || steps != c.inner || w.dump(w.real) != was {
				t.Errorf("P14.2: nothing is wrong in %s: %s, %d touches for key %d", whole(w.real), out, steps, key)
			}
			w.noFaults(t)
		}
	}
}

// byHand is a tree, of which the way to a key is mended; all else is what comes of it.
type byHand struct {
	a, b  int
	tree  *tree
	key   int64
	want  string
	fixes string // each Fix, of which node; one that was made has a number for its name
	steps int    // how many touches there are
}

// The touches of one Load are five, and one of each way. Those of a Store of n nodes, and of Leave of all but one, are 4 n + 1: the record, one of each node, SetAll, a mark of each but the first, the way, Set; two of each that goes.
const (
	two   = 4*2 + 1
	three = 4*3 + 1
	four  = 4*4 + 1
	leafs = 5 + 5
)

// oneWrong are trees with one node that is wrong on the way.
func oneWrong() []byHand {
	return []byHand{
		// The root.
		{2, 3, tagged(), 10, "([10 11] 20 [20 21])", "untag n", 2 + 6 + 7 + 1 + two + 2},
		{2, 3, wide("n", 10, 3).tag(), 35, "([10 11] 20 [20 21] 30 [30 31])", "untag n", 2 + 6 + 8 + 1 + two + 2},
		{2, 3, leafRoot(), 10, "[10 11]", "fill n", 2 + 6 + 6 + 5 + 1 + three + 1},
		{2, 3, in("n", nil, lf("s")), 10, "[]", "fill n", 2 + 6 + 6 + 5 + 1 + three + 1},
		{2, 3, in("n", nil, wide("s", 10, 2)), 10, "([10 11] 20 [20 21])", "fill n", 3 + 6 + 6 + 7 + 1 + three + 2},
		{2, 3, in("n", nil, wide("s", 10, 3)), 99, "([10 11] 20 [20 21] 30 [30 31])", "fill n", 3 + 6 + 6 + 8 + 1 + three + 2},
		// Tagged, between.
		{2, 3, tagBelow(), 10, "([10 11] 20 [20 21] 30 [30 31])", "untag n", 3 + 6 + 7 + 7 + 1 + three + 2},
		{2, 3, over("p", run("s", 10, 2), wide("n", 20, 2).tag()), 20, "([10 11] 20 [20 21] 30 [30 31])", "untag n", 3 + 6 + 7 + 7 + 1 + three + 2},
		{2, 3, over("p", run("s", 10, 2), wide("n", 20, 2).tag(), run("r", 40, 2)), 39, "(([10 11] 20 [20 21]) 30 ([30 31] 40 [40 41]))", "untag n", 3 + 6 + 8 + 7 + 3 + three + 3},
		{2, 4, over("p", run("s", 10, 2), wide("n", 20, 2).tag(), run("r", 40, 2)), 20, "([10 11] 20 [20 21] 30 [30 31] 40 [40 41])", "untag n", 3 + 6 + 8 + 7 + 1 + three + 2},
		{2, 3, over("g", wide("q", 10, 2), over("p", wide("n", 30, 2).tag(), run("s", 50, 2))), 35, "(([10 11] 20 [20 21]) 30 ([30 31] 40 [40 41] 50 [50 51]))", "untag n", 4 + 7 + 7 + 7 + 1 + three + 3},
		// Too few ways, between.
		{2, 3, over("p", wide("n", 10, 1), wide("s", 20, 2)), 10, "([10 11] 20 [20 21] 30 [30 31])", "fill n", 3 + 6 + 7 + 6 + 7 + 1 + four + 2},
		{2, 3, over("p", wide("s", 10, 3), wide("n", 40, 1)), 40, "(([10 11] 20 [20 21]) 30 ([30 31] 40 [40 41]))", "fill n", 3 + 6 + 7 + 8 + 6 + 3 + four + 3},
		{2, 3, over("p", wide("n", 10, 1), wide("s", 20, 2), wide("r", 40, 2)), 10, "(([10 11] 20 [20 21] 30 [30 31]) 40 ([40 41] 50 [50 51]))", "fill n", 3 + 6 + 8 + 6 + 7 + 2 + four + 3},
		// Too few pairs: the leaf.
		{2, 3, meets(), 10, "[10 20 21]", "fill n", 2 + 6 + 7 + leafs + 1 + four + 1},
		{2, 3, joins(), 20, "([10 11 20] 30 [30 31])", "fill n", 2 + 6 + 8 + leafs + 2 + four + 2},
		{2, 3, shares(), 10, "([10 20] 21 [21 22])", "fill n", 2 + 6 + 7 + leafs + 3 + four + 2},
		{2, 3, in("p", ks(17), run("s", 10, 3), lf("n")), 17, "[10 11 12]", "fill n", 2 + 6 + 7 + leafs + 1 + four + 1},
		{3, 5, over("p", run("s", 10, 4), run("n", 20, 2)), 20, "([10 11 12] 13 [13 20 21])", "fill n", 2 + 6 + 7 + leafs + 3 + four + 2},
		{2, 3, over("g", over("p", run("s", 10, 3), run("n", 20, 1)), wide("q", 30, 2)), 29, "(([10 11] 12 [12 20]) 30 ([30 31] 40 [40 41]))", "fill n", 3 + 7 + 7 + leafs + 3 + four + 3},
	}
}

// manyWrong are trees with several on the way, or what is wrong only when the first is fixed. Nodes that are made have the places behind the tree's.
func manyWrong() []byHand {
	chain := in("n", nil, in("m", nil, in("k", nil, run("s", 10, 2))))
	return []byHand{
		// Each ahead of those below it, with those ahead of it as they are by then.
		{2, 3, twice(), 10, "([10 11] 20 [20 21] 30 [30 31])", "untag n, untag m", 3 + 6 + 7 + 1 + two + 3 + 6 + 7 + 7 + 1 + three + 2},
		{2, 3, over("g", in("p", nil, run("n", 10, 1)), wide("q", 20, 2)), 10, "([10 20 21] 30 [30 31])", "fill p, fill n", 3 + 6 + 7 + 6 + 7 + 1 + four + 2 + 6 + 8 + leafs + 2 + four + 2},
		{2, 3, over("p", over("m", run("n", 10, 1), run("s", 20, 2)).tag(), run("r", 30, 2)), 10, "([10 20 21] 30 [30 31])", "untag m, fill n", 3 + 6 + 7 + 7 + 1 + three + 2 + 6 + 8 + leafs + 2 + four + 2},
		{2, 3, chain, 10, "[10 11]", "fill n, fill #5, fill #6", 4 + 6 + 6 + 6 + 1 + three + 3 + 6 + 6 + 6 + 1 + three + 2 + 6 + 6 + 5 + 1 + three + 1},
		// A node that is both: tagged first.
		{2, 3, in("n", nil, run("s", 10, 2)).tag(), 10, "[10 11]", "untag n, fill #3", 2 + 6 + 6 + 1 + two + 2 + 6 + 6 + 5 + 1 + three + 1},
		{2, 3, over("p", wide("n", 10, 1).tag(), run("s", 20, 2)), 10, "([10 11] 20 [20 21])", "untag n", 3 + 6 + 7 + 6 + 1 + three + 2},
		// The root with one way goes, and what it led to isn't tagged then.
		{2, 3, tagRoot(), 10, "([10 11] 20 [20 21])", "fill n", 3 + 6 + 6 + 7 + 1 + three + 2},
		// What is made is wrong itself, or the node above is then.
		{2, 3, climbs(), 10, "([10 20 21] 30 [30 31] 40 [40 41])", "fill n, fill #9", 3 + 7 + 7 + leafs + 2 + four + 3 + 6 + 7 + 6 + 7 + 1 + four + 2},
		{2, 3, splits(), 20, "((([10 11] 20 [20 21]) 30 ([30 31] 40 [40 41])) 60 (([60 61] 70 [70 71]) 80 ([80 81] 90 [90 91])))", "untag n, untag #16", 4 + 8 + 8 + 7 + 3 + three + 4 + 6 + 8 + 7 + 3 + three + 4},
		{3, 5, over("p", run("n", 10, 1), run("m", 20, 1), run("r", 30, 1)), 10, "[10 20 30]", "fill n, fill #5", 2 + 6 + 8 + leafs + 2 + four + 2 + 6 + 7 + leafs + 1 + four + 1},
		// The one beside is tagged: that goes first, then it is the same node's turn again.
		{2, 3, besideTagged(), 10, "([10 20 21] 30 [30 31])", "fill n, fill n", 2 + 6 + 7 + 6 + 7 + 7 + 1 + three + 2 + 6 + 8 + leafs + 2 + four + 2},
	}
}

func TestByHand(t *testing.T) {
	for i, c := range append(oneWrong(), manyWrong()...) {
		w := newBoth(t, plenty(c.a, c.b), c.tree)
		keys := c.tree.nearby()
		was, _ := found(w.real, keys)
		p := w.start(pathJob(c.key))
		out, steps := p.run(t)
		if out != isMended || whole(w.real) != c.want || steps != c.steps {
			t.Errorf("P14.2: case %d: %s, %s behind %d touches, not %s behind %d", i, out, whole(w.real), steps, c.want, c.steps)
		}
		if fixes := strings.Join(p.twin.fixes, ", "); fixes != c.fixes {
			t.Errorf("P14.2: case %d: %s, not %s", i, fixes, c.fixes)
		}
		if got, deep := found(w.real, keys); !slices.Equal(got, was) || deep < 0 {
			t.Errorf("P14.2: case %d: keys are found with %v, not %v, %d deep", i, got, was, deep)
		}
		// Nothing is left to do.
		if out, steps := w.run(t, pathJob(c.key)); out != isMended || steps > 4 || whole(w.real) != c.want {
			t.Errorf("P14.2: case %d: for a second time: %s, %s behind %d touches", i, out, whole(w.real), steps)
		}
		w.holdPlaces(t)
		w.noFaults(t)
		w.stop()
	}
}

// load is the touches of a Load of a node of some ways.
func load(name string, ways int) string {
	return fmt.Sprintf("Mark %s, Info %s, State, Mark %s, %sInfo %s, ", name, name, name, strings.Repeat("Way "+name+", ", ways), name)
}

// storeOf is the touches of a Store of some nodes, and then of Leave of all but the first.
func storeOf(names ...string) string {
	out := "Record, "
	for _, name := range names {
		out += "SwapInfo " + name + ", "
	}
	out += "SetAll, "
	for _, name := range names[1:] {
		out += "SetMark " + name + ", "
	}
	out += "SwapWay " + names[0] + ", Set, "
	for _, name := range names[1:] {
		out += "Now, Leave " + name + ", "
	}
	return out
}

// pathOf is the touches of chapter 11's Path.
func pathOf(names ...string) string {
	out := ""
	for _, name := range names {
		out += "Way " + name + ", "
	}
	return out
}

// TestTouchesByHand: what each touch is, in order.
func TestTouchesByHand(t *testing.T) {
	for i, c := range []struct {
		tree *tree
		left int
		out  string
		want string
	}{
		{wide("n", 10, 2), 9, isMended, pathOf("entry", "n")},
		{tagged(), 9, isMended, pathOf("entry", "n") + load("entry", 1) + load("n", 2) + "Alloc, " + storeOf("entry", "n") + pathOf("entry", "#4")},
		{leafRoot(), 9, isMended, pathOf("entry", "n") + load("entry", 1) + load("n", 1) + load("s", 0) + "Alloc, " + storeOf("entry", "n", "s") + pathOf("entry")},
		{meets(), 9, isMended, pathOf("entry", "p") + load("entry", 1) + load("p", 2) + load("n", 0) + load("s", 0) + "Alloc, " + storeOf("entry", "p", "n", "s") + pathOf("entry")},
		{tagBelow(), 9, isMended, pathOf("entry", "p", "n") + load("entry", 1) + load("p", 2) + load("n", 2) + "Alloc, " + storeOf("entry", "p", "n") + pathOf("entry", "#6")},
		{twice(), 9, isMended, pathOf("entry", "n", "m") + load("entry", 1) + load("n", 2) + "Alloc, " + storeOf("entry", "n") +
			pathOf("entry", "#6", "m") + load("entry", 1) + load("#6", 2) + load("m", 2) + "Alloc, " + storeOf("entry", "#6", "m") + pathOf("entry", "#7")},
		{twice(), 1, isShort, pathOf("entry", "n", "m") + load("entry", 1) + load("n", 2) + "Alloc, " + storeOf("entry", "n") +
			pathOf("entry", "#6", "m") + load("entry", 1) + load("#6", 2) + load("m", 2) + "Alloc, "},
		{climbs(), 9, isMended, pathOf("entry", "g", "p") + load("g", 2) + load("p", 2) + load("n", 0) + load("s", 0) + "Alloc, Alloc, " + storeOf("g", "p", "n", "s") +
			pathOf("entry", "g", "#9") + load("entry", 1) + load("g", 2) + load("#9", 1) + load("q", 2) + "Alloc, " + storeOf("entry", "g", "#9", "q") + pathOf("entry", "#10")},
	} {
		w := newBoth(t, setting{2, 3, c.left, 9}, c.tree)
		p := w.start(pathJob(10))
		if got, _ := p.run(t); got != c.out || p.twin.touches() != c.want {
			t.Errorf("P14.2: case %d: %s:\n%s, not %s:\n%s", i, got, p.twin.touches(), c.out, c.want)
		}
		w.noFaults(t)
	}
}

// TestBesideStays: what is wrong beside the way stays as it is, also where something on the way is fixed.
func TestBesideStays(t *testing.T) {
	for i, c := range []struct {
		tree  *tree
		key   int64
		want  string // none: as it was, without a Fix
		steps int
	}{
		{in("p", ks(20, 30), run("s", 10, 2), run("n", 20, 1), lf("r")), 10, "", 2},
		{over("p", run("s", 10, 2), run("r", 20, 2), wide("n", 30, 2).tag()), 20, "", 2},
		{over("g", wide("p", 10, 2), wide("q", 30, 1), wide("u", 40, 2).tag()), 21, "", 3},
		{over("g", over("p", run("s", 10, 2), run("n", 20, 1)), over("q", run("r", 30, 2), wide("u", 40, 2).tag())), 10, "", 3},
		{over("g", over("p", run("s", 10, 2), run("n", 20, 1)), over("q", run("r", 30, 2), wide("u", 40, 2).tag())), 35, "", 3},
		// Both are wrong: the one on the way goes alone.
		{over("g", over("p", run("n", 10, 1), run("s", 20, 3), run("r", 30, 1)), over("q", run("", 40, 1), wide("u", 50, 2).tag())), 10, "(([10 20] 21 [21 22] 30 [30]) 40 ([40] 50 *([50 51] 60 [60 61])))", 3 + 7 + 8 + leafs + 3 + four + 3},
		{over("g", over("p", run("r", 10, 1), run("s", 20, 3), wide("n", 30, 2).tag()), wide("q", 50, 1)), 30, "(([10] 20 [20 21 22]) 30 ([30 31] 40 [40 41]) 50 ([50 51]))", 4 + 7 + 8 + 7 + 3 + three + 4 + 6 + 7 + 7 + 1 + three + 3},
		// The one beside to the left is the one that a node shares with; that to the right may be wrong.
		{over("p", run("s", 10, 3), run("n", 20, 1), run("r", 30, 1)), 20, "([10 11] 12 [12 20] 30 [30])", 2 + 6 + 8 + leafs + 3 + four + 2},
		// Below what goes.
		{over("p", over("n", run("", 10, 2), run("r", 20, 1)).tag(), run("s", 30, 2)), 10, "([10 11] 20 [20] 30 [30 31])", 3 + 6 + 7 + 7 + 1 + three + 2},
	} {
		w := newBoth(t, plenty(2, 3), c.tree)
		was, all := w.dump(w.real), whole(w.real)
		out, steps := w.run(t, pathJob(c.key))
		if c.want == "" && w.dump(w.real) != was {
			t.Errorf("P14.2: case %d: nothing is wrong on the way to %d in %s, but it is %s then", i, c.key, all, whole(w.real))
		}
		if out != isMended || c.want != "" && whole(w.real) != c.want || steps != c.steps {
			t.Errorf("P14.2: case %d: %s, %s behind %d touches, not %s behind %d", i, out, whole(w.real), steps, c.want, c.steps)
		}
		w.noFaults(t)
	}
}

// TestEnds: keys at both ends, of trees whose keys are there.
func TestEnds(t *testing.T) {
	const least, most = math.MinInt64, math.MaxInt64
	for i, c := range []struct {
		tree *tree
		key  int64
		want string
	}{
		{over("p", lf("n", least), lf("s", 0, most)), least, fmt.Sprintf("[%d 0 %d]", least, most)},
		{over("p", lf("s", least, 0), lf("n", most)), most, fmt.Sprintf("[%d 0 %d]", least, most)},
		{over("p", lf("s", least, 0), lf("n", most)), most - 1, fmt.Sprintf("([%d 0] %d [%d])", least, most, most)},
		{over("p", lf("n", least), lf("s", least+1, 0)), least, fmt.Sprintf("[%d %d 0]", least, least+1)},
		{over("p", lf("n", least), lf("s", least+1, 0)), least + 1, fmt.Sprintf("([%d] %d [%d 0])", least, least+1, least+1)},
		{in("p", ks(least), lf("n"), lf("s", least, 0)), least, fmt.Sprintf("([] %d [%d 0])", least, least)},
		{in("p", ks(least), lf("s", 0, 1), lf("n")), least, "[0 1]"},
		{in("p", ks(least, most), lf("n"), lf("s", least, 0), lf("r", most)), most, fmt.Sprintf("([] %d [%d 0 %d])", least, least, most)},
		{in("p", ks(most), in("n", ks(least), lf("", least), lf("", 5)).tag(), lf("s", most)), least, fmt.Sprintf("([%d] %d [5 %d])", least, most, most)},
		{over("p", run("r", 1, 2), over("n", lf("", 9, 10), lf("", most-1, most)).tag()), most, fmt.Sprintf("([1 2] 9 [9 10] %d [%d %d])", most-1, most-1, most)},
		{over("n", lf("", least, 2), lf("", 9, most)).tag(), most, fmt.Sprintf("([%d 2] 9 [9 %d])", least, most)},
		{over("n", lf("", least, 2), lf("", 9, most)).tag(), least, fmt.Sprintf("([%d 2] 9 [9 %d])", least, most)},
	} {
		w := newBoth(t, plenty(2, 3), c.tree)
		if out, _ := w.run(t, pathJob(c.key)); out != isMended || i != 8 && whole(w.real) != c.want {
			t.Errorf("P14.2: case %d: the way to %d: %s, %s, not %s", i, c.key, out, whole(w.real), c.want)
		}
		w.holdMended(t, c.key)
		w.noFaults(t)
	}
}

// TestWayByKey: it is the way to the key alone that is mended: each key of a tree, at both sides of each key between.
func TestWayByKey(t *testing.T) {
	made := func() *tree { return over("p", run("a", 10, 1), run("b", 20, 3), run("c", 30, 1)) }
	for key, want := range map[int64]string{
		math.MinInt64: "a", 9: "a", 19: "a", 20: "", 29: "", 30: "c", 31: "c", math.MaxInt64: "c",
	} {
		shapes := map[string]string{"a": "([10 20] 21 [21 22] 30 [30])", "c": "([10] 20 [20 21] 22 [22 30])", "": "([10] 20 [20 21 22] 30 [30])"}
		w := newBoth(t, plenty(2, 3), made())
		if out, _ := w.run(t, pathJob(key)); out != isMended || whole(w.real) != shapes[want] {
			t.Errorf("P14.2: the way to %d: %s, %s", key, out, whole(w.real))
		}
	}
}

// TestAnyTree: of trees of all kinds the ways to all keys are mended, in some order: nothing is wrong then, all pairs are there, leaves lie equally deep.
func TestAnyTree(t *testing.T) {
	t.Parallel()
	r := rand.New(rand.NewSource(14))
	many := 0
	for i := range 150 {
		many = max(many, holdAnyTree(t, r, 2+i%3/2, i%2 == 1))
	}
	if many < 5 {
		t.Errorf("P14.2: no way came to more than %d Fixes", many)
	}
}

// holdAnyTree: how many Fixes the way had that had most.
func holdAnyTree(t *testing.T, r *rand.Rand, a int, tags bool) int {
	t.Helper()
	b := 2*a - 1 + r.Intn(2)
	n := (&grower{r: r, a: a, b: b, tags: tags}).someTree(1 + r.Intn(3))
	if tags && r.Intn(3) == 0 {
		n = n.tag()
	}
	w := newBoth(t, setting{a, b, 900, 900}, n)
	defer w.stop()
	keys := n.nearby()
	was, _ := found(w.real, keys)
	order := slices.Clone(keys)
	r.Shuffle(len(order), func(i, j int) { order[i], order[j] = order[j], order[i] })
	many := 0
	for _, key := range order {
		p := w.start(pathJob(key))
		if out, _ := p.runUnheld(t); out != isMended {
			t.Fatalf("P14.2: it comes to %s in %s", out, whole(w.real))
		}
		many = max(many, len(p.twin.fixes))
		if got, _ := found(w.real, keys); !slices.Equal(got, was) {
			t.Fatalf("P14.2: keys are found with %v, not %v in %s", got, was, whole(w.real))
		}
		w.holdMended(t, key)
	}
	w.holdBalanced(t)
	w.noFaults(t)
	return many
}

// holdBalanced: no node is tagged, has too few entries or too many; all leaves lie equally deep; what isn't there any more waits.
func (b *both) holdBalanced(t *testing.T) {
	t.Helper()
	l := spots(b.real)
	leaves := -1
	for _, s := range l {
		n := len(s.node.Pairs)
		if s.node.Inner {
			n = len(s.node.Ways.Ways)
		}
		if s.node.Tagged || few(b.real.A, s.node, len(s.up) == 1) || n > b.real.B {
			t.Errorf("P14.2: a node of %d entries: %s", n, whole(b.real))
		}
		if !s.node.Inner && leaves >= 0 && len(s.up) != leaves {
			t.Errorf("P14.2: leaves lie %d and %d deep: %s", len(s.up), leaves, whole(b.real))
		}
		if !s.node.Inner {
			leaves = len(s.up)
		}
	}
	if used := b.real.Arena.Used(); used != len(l)+1+b.real.Epochs.Limbo() {
		t.Errorf("P14.2: %d places are used, %d nodes are there, %d wait", used, len(l)+1, b.real.Epochs.Limbo())
	}
}

// TestOneBehindTheOther: several in one work come to the same as each in its own.
func TestOneBehindTheOther(t *testing.T) {
	made := func() *tree {
		return over("g", over("p", run("n", 10, 1), run("s", 20, 2)), over("q", run("r", 30, 1), wide("u", 40, 2).tag()))
	}
	apart, one := newBoth(t, plenty(2, 3), made()), newBoth(t, plenty(2, 3), made())
	var l []job
	outs := ""
	for _, key := range []int64{10, 40, 30, 10} {
		l = append(l, pathJob(key))
		out, _ := apart.run(t, l[len(l)-1])
		outs += out
	}
	if out, _ := one.run(t, thenJob(l...)); out != outs || whole(one.real) != whole(apart.real) || outs != isMended+isMended+isMended+isMended {
		t.Errorf("P14.2: in one work they come to %s, %s; each in its own to %s, %s", out, whole(one.real), outs, whole(apart.real))
	}
	one.holdBalanced(t)
}

// TestNodesStay: what went, and what is beside it, still is as it was made: nodes don't change but for ways, records, marks.
func TestNodesStay(t *testing.T) {
	for _, c := range append(oneWrong(), manyWrong()...) {
		w := newBoth(t, plenty(c.a, c.b), c.tree)
		var was []arena.Node
		for _, o := range c.tree.nodes() {
			was = append(was, w.real.Arena.Look(o.ref))
		}
		w.start(pathJob(c.key)).runUnheld(t)
		for i, o := range c.tree.nodes() {
			if got := w.real.Arena.Look(o.ref); tell(got) != tell(was[i]) {
				t.Errorf("P14.2: node %s is %+v, not %+v", o.name, got, was[i])
			}
		}
		w.stop()
	}
}
