package arena

import (
	"math"
	"math/rand"
	"slices"
	"testing"

	"boscage/inner"
	"boscage/leaf"
	"boscage/ref"
)

// pairsNode is a leaf that tells n.
func pairsNode(n int64) Node {
	return Node{Pairs: leaf.Leaf{{Key: n, Value: 10 * n}, {Key: n + 1, Value: -n}}}
}

// waysNode is an inner node with these ways, and keys between.
func waysNode(ways ...ref.Ref) Node {
	n := Node{Inner: true}
	for i := 1; i < len(ways); i++ {
		n.Ways.Keys = append(n.Ways.Keys, int64(10*i))
	}
	n.Ways.Ways = ways
	return n
}

// samples are nodes of all forms, those too that no tree has.
func samples() []Node {
	return []Node{
		{},
		{Tagged: true},
		{Inner: true},
		{Pairs: leaf.Leaf{}, Ways: inner.Inner{Keys: []int64{}, Ways: []ref.Ref{}}},
		pairsNode(4),
		pairsNode(math.MinInt64),
		waysNode(7),
		waysNode(0),
		waysNode(7, -8, 0, math.MaxInt64, math.MinInt64),
		{Inner: true, Tagged: true, Ways: inner.Inner{Keys: []int64{5}, Ways: []ref.Ref{1, 2}}},
		// A leaf with ways, keys that fall, and pairs that do, are kept as they are.
		{Tagged: true, Pairs: leaf.Leaf{{Key: 9, Value: 1}, {Key: 2, Value: 2}}, Ways: inner.Inner{Keys: []int64{9, 8, 7, 6}, Ways: []ref.Ref{3}}},
		{Inner: true, Pairs: leaf.Leaf{{Key: 1, Value: 1}}, Ways: inner.Inner{Keys: []int64{1}}},
	}
}

// copied shares no memory with n; it leans on nothing of the package's.
func copied(n Node) Node {
	out := Node{Inner: n.Inner, Tagged: n.Tagged}
	for _, p := range n.Pairs {
		out.Pairs = append(out.Pairs, p)
	}
	for _, k := range n.Ways.Keys {
		out.Ways.Keys = append(out.Ways.Keys, k)
	}
	for _, w := range n.Ways.Ways {
		out.Ways.Ways = append(out.Ways.Ways, w)
	}
	return out
}

func same(a, b Node) bool {
	return a.Inner == b.Inner && a.Tagged == b.Tagged && slices.Equal(a.Pairs, b.Pairs) &&
		slices.Equal(a.Ways.Keys, b.Ways.Keys) && slices.Equal(a.Ways.Ways, b.Ways.Ways)
}

// alloc expects that there is room.
func alloc(t *testing.T, a *Arena, n Node) ref.Ref {
	t.Helper()
	r, ok := a.Alloc(n)
	if !ok {
		t.Fatalf("P4.1: Alloc answers false, with %d of %d used", a.Used(), a.Most())
	}
	return r
}

func free(t *testing.T, a *Arena, r ref.Ref) {
	t.Helper()
	if !a.Free(r) {
		t.Fatalf("P4.2: Free(%d) answers false", r)
	}
}

func checkRef(t *testing.T, got ref.Ref, place int, count int64) {
	t.Helper()
	// Reckoned here by the chapter's words, not by Of.
	if want := ref.Ref(count*1<<40 + int64(place) + 1); got != want {
		t.Errorf("P4.1: the reference is %d (place %d, count %d), not of place %d, count %d", got, got.Place(), got.Count(), place, count)
	}
}

func checkNumbers(t *testing.T, a *Arena, when string, used, faults, most int) {
	t.Helper()
	if a.Used() != used || a.Faults() != faults || a.Most() != most {
		t.Errorf("P4.3: %s: Used, Faults, Most are %d, %d, %d, not %d, %d, %d", when, a.Used(), a.Faults(), a.Most(), used, faults, most)
	}
}

// checkFull: there is no room, and that changes nothing.
func checkFull(t *testing.T, a *Arena) {
	t.Helper()
	used, faults, most := a.Used(), a.Faults(), a.Most()
	for range 3 {
		if r, ok := a.Alloc(waysNode(1, 2)); ok || r != 0 {
			t.Errorf("P4.1: Alloc with %d of %d used is %d, %t, not 0, false", used, most, r, ok)
		}
	}
	checkNumbers(t, a, "behind Alloc without room", used, faults, most)
}

// checkNode: the whole of what a node is now.
func checkNode(t *testing.T, a *Arena, r ref.Ref, n Node, ways []ref.Ref, info int64, mark bool) {
	t.Helper()
	faults := a.Faults()
	if got := a.Look(r); !same(got, n) {
		t.Errorf("P4.2: Look(%d) is %v, not %v", r, got, n)
	}
	for i, w := range ways {
		if got := a.Way(r, i); got != w {
			t.Errorf("P4.2: Way(%d, %d) is %d, not %d", r, i, got, w)
		}
	}
	if got := a.Way(r, len(ways)); got != 0 {
		t.Errorf("P4.2: Way(%d, %d) is %d, where there is none", r, len(ways), got)
	}
	if got := a.Info(r); got != info {
		t.Errorf("P4.2: Info(%d) is %d, not %d", r, got, info)
	}
	if got := a.Mark(r); got != mark {
		t.Errorf("P4.2: Mark(%d) is %t", r, got)
	}
	if a.Faults() != faults {
		t.Errorf("P4.2: a right reference, %d, makes %d faults", r, a.Faults()-faults)
	}
}

func TestNewHoldsMostWithinBounds(t *testing.T) {
	for _, c := range []struct{ asked, want int }{
		{math.MinInt64, 0}, {-65536, 0}, {-2, 0}, {-1, 0}, {0, 0}, {1, 1}, {2, 2}, {1000, 1000},
		{65535, 65535}, {65536, 65536}, {65537, 65536}, {1 << 20, 65536}, {1 << 32, 65536}, {1 << 40, 65536}, {math.MaxInt64, 65536},
	} {
		checkNumbers(t, New(c.asked), "behind New", 0, 0, c.want)
	}
}

func TestAllocTillThereIsNoRoom(t *testing.T) {
	for _, c := range []struct{ asked, room int }{
		{math.MinInt64, 0}, {-1, 0}, {0, 0}, {1, 1}, {2, 2}, {7, 7}, {65535, 65535}, {65536, 65536}, {65537, 65536}, {math.MaxInt64, 65536},
	} {
		a := New(c.asked)
		for i := range c.room {
			checkRef(t, alloc(t, a, Node{}), i, 1)
		}
		checkNumbers(t, a, "with all used", c.room, 0, c.room)
		checkFull(t, a)
		if c.room == 0 {
			continue
		}
		last := c.room - 1
		free(t, a, ref.Of(last, 1))
		checkRef(t, alloc(t, a, Node{}), last, 2)
		checkFull(t, a)
	}
}

func TestAllocUsesTheFirstFreedAgain(t *testing.T) {
	a := New(8)
	for range 6 {
		alloc(t, a, Node{})
	}
	order := []int{4, 0, 5, 2}
	for _, i := range order {
		free(t, a, ref.Of(i, 1))
	}
	for _, i := range order[:2] {
		checkRef(t, alloc(t, a, Node{}), i, 2)
	}
	// What is freed now comes behind those that were freed ahead and aren't used since.
	free(t, a, ref.Of(0, 2))
	free(t, a, ref.Of(1, 1))
	for _, c := range []struct {
		place int
		count int64
	}{{5, 2}, {2, 2}, {0, 3}, {1, 2}, {6, 1}, {7, 1}} {
		checkRef(t, alloc(t, a, Node{}), c.place, c.count)
	}
	checkFull(t, a)
}

func TestAllocNewPlacesOnlyBehindFreedOnes(t *testing.T) {
	a := New(3)
	x := alloc(t, a, Node{})
	for count := int64(2); count < 300; count++ {
		free(t, a, x)
		x = alloc(t, a, Node{})
		checkRef(t, x, 0, count)
	}
	checkRef(t, alloc(t, a, Node{}), 1, 1)
	free(t, a, x)
	checkRef(t, alloc(t, a, Node{}), 0, 300)
	checkRef(t, alloc(t, a, Node{}), 2, 1)
	checkFull(t, a)
}

func TestAllocAtAllFreedInTurn(t *testing.T) {
	const places = 500
	a := New(places)
	for range places {
		alloc(t, a, Node{})
	}
	for count := int64(1); count <= 4; count++ {
		for i := range places {
			// 7 and 500 have no factor in common, so that each place comes once.
			free(t, a, ref.Of(i*7%places, uint32(count)))
		}
		checkNumbers(t, a, "with all freed", 0, 0, places)
		for i := range places {
			checkRef(t, alloc(t, a, Node{}), i*7%places, count+1)
		}
		checkFull(t, a)
	}
}

func TestAllocHasTheNode(t *testing.T) {
	a := New(100)
	var refs []ref.Ref
	for _, n := range samples() {
		refs = append(refs, alloc(t, a, n))
	}
	for i, n := range samples() {
		checkNode(t, a, refs[i], n, n.Ways.Ways, 0, false)
	}
}

func TestPlaceUsedAgainHasNothingOfTheOneAhead(t *testing.T) {
	for _, n := range samples() {
		a := New(1)
		x := alloc(t, a, waysNode(11, 12, 13, 14))
		a.SwapWay(x, 0, 11, 15)
		a.SwapWay(x, 3, 14, 16)
		a.SwapInfo(x, 0, 99)
		a.SetMark(x)
		free(t, a, x)
		y := alloc(t, a, n)
		checkRef(t, y, 0, 2)
		checkNode(t, a, y, n, n.Ways.Ways, 0, false)
		free(t, a, y)
		z := alloc(t, a, Node{Tagged: true})
		checkNode(t, a, z, Node{Tagged: true}, nil, 0, false)
		checkNumbers(t, a, "used again", 1, 0, 1)
	}
}

// eight are the calls that ask for a right reference; each tells whether all that it answered is zero.
func eight() map[string]func(*Arena, ref.Ref) bool {
	return map[string]func(*Arena, ref.Ref) bool{
		"Free":     func(a *Arena, r ref.Ref) bool { return !a.Free(r) },
		"Look":     func(a *Arena, r ref.Ref) bool { return same(a.Look(r), Node{}) },
		"Way":      func(a *Arena, r ref.Ref) bool { return a.Way(r, 0) == 0 },
		"SwapWay":  func(a *Arena, r ref.Ref) bool { return !a.SwapWay(r, 0, 21, 77) },
		"Info":     func(a *Arena, r ref.Ref) bool { return a.Info(r) == 0 },
		"SwapInfo": func(a *Arena, r ref.Ref) bool { return !a.SwapInfo(r, 31, 77) },
		"Mark":     func(a *Arena, r ref.Ref) bool { return !a.Mark(r) },
		"SetMark":  func(a *Arena, r ref.Ref) bool { a.SetMark(r); return true },
	}
}

// wronged has places 0 and 2 used for the second time, 1 freed, 3 used for the first time, all marked and with a record, and room for four more.
func wronged(t *testing.T) *Arena {
	t.Helper()
	a := New(8)
	for range 4 {
		alloc(t, a, waysNode(21, 22))
	}
	for _, i := range []int{0, 2, 1} {
		a.SwapInfo(ref.Of(i, 1), 0, 31)
		a.SetMark(ref.Of(i, 1))
		free(t, a, ref.Of(i, 1))
	}
	for _, r := range []ref.Ref{alloc(t, a, waysNode(21, 22)), alloc(t, a, waysNode(21, 22)), ref.Of(3, 1)} {
		a.SwapInfo(r, 0, 31)
		a.SetMark(r)
	}
	return a
}

// notRight are references that aren't right in what wronged makes.
func notRight() []ref.Ref {
	l := []ref.Ref{
		0, 1, -1, 1 << 40, math.MaxInt64, math.MinInt64, math.MinInt64 + 1,
		// never used; the greatest place; beyond all
		ref.Of(4, 0), ref.Of(4, 1), ref.Of(7, 1), ref.Of(8, 1), ref.Of(65535, 1), ref.Of(65536, 1), ref.Of(1<<31, 1), ref.Of(1<<32, 2), ref.Of(1<<40-2, 1),
		// freed
		ref.Of(1, 0), ref.Of(1, 1), ref.Of(1, 2),
		// used again since
		ref.Of(0, 1), ref.Of(2, 1),
		// counts too small, and too great
		ref.Of(0, 0), ref.Of(2, 0), ref.Of(3, 0), ref.Of(0, 3), ref.Of(2, 3), ref.Of(3, 2), ref.Of(0, 1<<22+2), ref.Of(3, 1<<23-1),
		// no place
		ref.Of(-1, 1), ref.Of(-1, 2),
	}
	// Place and Count of these are those of right ones.
	for _, r := range []ref.Ref{ref.Of(0, 2), ref.Of(2, 2), ref.Of(3, 1)} {
		l = append(l, r+math.MinInt64)
	}
	return l
}

func checkWronged(t *testing.T, a *Arena, faults int) {
	t.Helper()
	for _, r := range []ref.Ref{ref.Of(0, 2), ref.Of(2, 2), ref.Of(3, 1)} {
		checkNode(t, a, r, waysNode(21, 22), []ref.Ref{21, 22}, 31, true)
	}
	checkNumbers(t, a, "behind faults", 3, faults, 8)
	// The freed place is the next one still, then the new ones.
	checkRef(t, alloc(t, a, Node{}), 1, 2)
	for i := 4; i < 8; i++ {
		checkRef(t, alloc(t, a, Node{}), i, 1)
	}
	checkFull(t, a)
}

func TestFaultIsOneMoreAndNothingElse(t *testing.T) {
	for name, call := range eight() {
		for _, r := range notRight() {
			a := wronged(t)
			if !call(a, r) {
				t.Errorf("P4.2: %s of %d isn't its zero value", name, r)
			}
			if a.Faults() != 1 {
				t.Errorf("P4.2: %s of %d makes %d faults", name, r, a.Faults())
			}
			checkWronged(t, a, 1)
		}
	}
}

func TestFaultsAreCountedOneByOne(t *testing.T) {
	a, n := wronged(t), 0
	for _, r := range notRight() {
		for name, call := range eight() {
			call(a, r)
			n++
			if a.Faults() != n {
				t.Fatalf("P4.3: Faults behind %s of %d is %d, not %d", name, r, a.Faults(), n)
			}
		}
	}
	checkWronged(t, a, n)
}

func TestFaultsOfAnArenaWithoutPlaces(t *testing.T) {
	for _, most := range []int{-5, 0, 5} {
		a, n := New(most), 0
		for _, r := range append(notRight(), ref.Of(0, 2), ref.Of(2, 2)) {
			for name, call := range eight() {
				n++
				if !call(a, r) || a.Faults() != n {
					t.Fatalf("P4.2: %s of %d: %d faults, not %d", name, r, a.Faults(), n)
				}
			}
		}
		checkNumbers(t, a, "without places", 0, n, max(most, 0))
	}
}

func TestEightWithARightReference(t *testing.T) {
	for name, call := range eight() {
		a := New(3)
		r := alloc(t, a, waysNode(21, 22))
		a.SwapInfo(r, 0, 31)
		a.SetMark(r)
		if zero := call(a, r); zero != (name == "SetMark") {
			t.Errorf("P4.2: %s of a right reference: zero is %t", name, zero)
		}
		if a.Faults() != 0 {
			t.Errorf("P4.2: %s of a right reference is a fault", name)
		}
	}
}

func TestFree(t *testing.T) {
	a := New(2)
	x, y := alloc(t, a, pairsNode(1)), alloc(t, a, pairsNode(2))
	if !a.Free(x) {
		t.Error("P4.2: Free of a right reference is false")
	}
	checkNumbers(t, a, "behind Free", 1, 0, 2)
	for i := range 3 {
		if a.Free(x) {
			t.Error("P4.2: Free once more is true")
		}
		checkNumbers(t, a, "behind Free once more", 1, i+1, 2)
	}
	checkNode(t, a, y, pairsNode(2), nil, 0, false)
	// Freed once, the place is used once, too.
	checkRef(t, alloc(t, a, Node{}), 0, 2)
	checkFull(t, a)
}

func TestWayWhereThereIsNone(t *testing.T) {
	a := New(4)
	for _, ways := range [][]ref.Ref{nil, {7}, {7, 8, 9}} {
		r := alloc(t, a, waysNode(ways...))
		n := len(ways)
		for _, i := range []int{math.MinInt64, -1 << 40, -2, -1, n, n + 1, n + 100, 1 << 32, 1 << 40, math.MaxInt64} {
			if got := a.Way(r, i); got != 0 {
				t.Errorf("P4.2: Way %d of %d is %d", i, n, got)
			}
			for _, old := range []ref.Ref{0, 7, 9, -1} {
				for _, now := range []ref.Ref{0, 5, 7} {
					if a.SwapWay(r, i, old, now) {
						t.Errorf("P4.2: SwapWay(%d of %d, %d, %d) is true", i, n, old, now)
					}
				}
			}
		}
		checkNode(t, a, r, waysNode(ways...), ways, 0, false)
	}
	checkNumbers(t, a, "behind ways that aren't there", 3, 0, 4)
}

func TestSwapWay(t *testing.T) {
	a := New(3)
	first := []ref.Ref{7, 0, -3, math.MaxInt64}
	x, y := alloc(t, a, waysNode(first...)), alloc(t, a, waysNode(first...))
	ways := slices.Clone(first)
	for _, c := range []struct {
		i        int
		old, now ref.Ref
		want     bool
	}{
		{0, 8, 9, false}, {0, 0, 9, false}, {0, -7, 9, false}, {0, 7, 9, true}, {0, 7, 9, false}, {0, 9, 7, true},
		{0, 7, 7, true}, {0, 8, 7, false}, {0, 7, 0, true}, {0, 7, 1, false}, {0, 0, 1, true},
		{1, 7, 5, false}, {1, 0, 0, true}, {1, 0, 5, true}, {1, 0, 6, false},
		{2, 3, 4, false}, {2, -3, math.MinInt64, true}, {2, math.MinInt64, 4, true},
		{3, -1, 5, false}, {3, math.MaxInt64, -1, true}, {3, math.MaxInt64, 5, false},
	} {
		if got := a.SwapWay(x, c.i, c.old, c.now); got != c.want {
			t.Errorf("P4.2: SwapWay(%d, %d, %d) is %t", c.i, c.old, c.now, got)
		}
		if c.want {
			ways[c.i] = c.now
		}
		// Look tells the node as it was handed in, whatever its ways are now.
		checkNode(t, a, x, waysNode(first...), ways, 0, false)
	}
	checkNode(t, a, y, waysNode(first...), first, 0, false)
	checkNumbers(t, a, "behind SwapWay", 2, 0, 3)
}

func TestSwapInfo(t *testing.T) {
	a := New(3)
	x, y := alloc(t, a, pairsNode(1)), alloc(t, a, pairsNode(2))
	info := int64(0)
	for _, c := range []struct {
		old, now int64
		want     bool
	}{
		{1, 2, false}, {-1, 2, false}, {0, 0, true}, {0, 5, true}, {0, 6, false}, {6, 7, false}, {5, 5, true}, {5, math.MaxInt64, true},
		{-1, 1, false}, {math.MaxInt64, math.MinInt64, true}, {math.MaxInt64, 3, false}, {math.MinInt64, 1 << 32, true}, {0, 4, false}, {1 << 32, 0, true}, {0, 9, true},
	} {
		if got := a.SwapInfo(x, c.old, c.now); got != c.want {
			t.Errorf("P4.2: SwapInfo(%d, %d) at %d is %t", c.old, c.now, info, got)
		}
		if c.want {
			info = c.now
		}
		checkNode(t, a, x, pairsNode(1), nil, info, false)
	}
	checkNode(t, a, y, pairsNode(2), nil, 0, false)
	checkNumbers(t, a, "behind SwapInfo", 2, 0, 3)
}

func TestSetMark(t *testing.T) {
	a := New(3)
	x, y := alloc(t, a, waysNode(1, 2)), alloc(t, a, pairsNode(2))
	checkNode(t, a, x, waysNode(1, 2), []ref.Ref{1, 2}, 0, false)
	for range 2 {
		a.SetMark(x)
		checkNode(t, a, x, waysNode(1, 2), []ref.Ref{1, 2}, 0, true)
	}
	checkNode(t, a, y, pairsNode(2), nil, 0, false)
	// A marked node's way and record may be swapped, and it stays marked.
	if !a.SwapWay(x, 1, 2, 3) || !a.SwapInfo(x, 0, 4) {
		t.Error("P4.2: a marked node isn't changed")
	}
	checkNode(t, a, x, waysNode(1, 2), []ref.Ref{1, 3}, 4, true)
	checkNumbers(t, a, "behind SetMark", 2, 0, 3)
}

func TestNumbersBehindEachCall(t *testing.T) {
	a := New(2)
	checkNumbers(t, a, "New", 0, 0, 2)
	x := alloc(t, a, waysNode(5))
	checkNumbers(t, a, "Alloc", 1, 0, 2)
	y := alloc(t, a, waysNode(5))
	checkNumbers(t, a, "Alloc", 2, 0, 2)
	checkFull(t, a)
	a.Look(x)
	a.Way(x, 0)
	a.Way(x, 1)
	a.SwapWay(x, 0, 5, 6)
	a.SwapWay(x, 0, 5, 6)
	a.SwapWay(x, 1, 0, 6)
	a.Info(x)
	a.SwapInfo(x, 0, 1)
	a.SwapInfo(x, 0, 1)
	a.SetMark(x)
	a.Mark(x)
	checkNumbers(t, a, "right references", 2, 0, 2)
	free(t, a, y)
	checkNumbers(t, a, "Free", 1, 0, 2)
	a.Free(y)
	checkNumbers(t, a, "Free again", 1, 1, 2)
	free(t, a, x)
	checkNumbers(t, a, "Free of the last", 0, 1, 2)
	a.Look(x)
	checkNumbers(t, a, "Look of one freed", 0, 2, 2)
	alloc(t, a, Node{})
	checkNumbers(t, a, "Alloc of one freed", 1, 2, 2)
}

// roomy is n, each of its lists with spare room behind.
func roomy(n Node) Node {
	n = copied(n)
	n.Pairs = append(make(leaf.Leaf, 0, len(n.Pairs)+4), n.Pairs...)
	n.Ways.Keys = append(make([]int64, 0, len(n.Ways.Keys)+4), n.Ways.Keys...)
	n.Ways.Ways = append(make([]ref.Ref, 0, len(n.Ways.Ways)+4), n.Ways.Ways...)
	return n
}

// spoil writes over all that a node's lists have, spare room included.
func spoil(n Node, with int64) {
	pairs, keys, ways := n.Pairs[:cap(n.Pairs)], n.Ways.Keys[:cap(n.Ways.Keys)], n.Ways.Ways[:cap(n.Ways.Ways)]
	for i := range pairs {
		pairs[i] = leaf.Pair{Key: with, Value: with}
	}
	for i := range keys {
		keys[i] = with
	}
	for i := range ways {
		ways[i] = ref.Ref(with)
	}
}

func spoilt(n Node, with int64) bool {
	pairs, keys, ways := n.Pairs[:cap(n.Pairs)], n.Ways.Keys[:cap(n.Ways.Keys)], n.Ways.Ways[:cap(n.Ways.Ways)]
	return !slices.ContainsFunc(pairs, func(p leaf.Pair) bool { return p.Key != with || p.Value != with }) &&
		!slices.ContainsFunc(keys, func(k int64) bool { return k != with }) &&
		!slices.ContainsFunc(ways, func(w ref.Ref) bool { return w != ref.Ref(with) })
}

func TestWhatIsHandedInIsNeitherChangedNorKept(t *testing.T) {
	for _, n := range samples() {
		a := New(2)
		in := roomy(n)
		spoil(in, 41)
		want := copied(in)
		r := alloc(t, a, in)
		if !spoilt(in, 41) {
			t.Errorf("R6: Alloc changes what is handed in: %v", in)
		}
		spoil(in, 66)
		checkNode(t, a, r, want, want.Ways.Ways, 0, false)
		for i := range want.Ways.Ways {
			a.SwapWay(r, i, 41, 43)
		}
		a.Free(r)
		alloc(t, a, want)
		if !spoilt(in, 66) {
			t.Errorf("R6: a call behind Alloc changes what was handed in: %v", in)
		}
	}
}

func TestWhatLookTellsIsNewMemory(t *testing.T) {
	for _, n := range samples() {
		a := New(2)
		r := alloc(t, a, n)
		one, two := a.Look(r), a.Look(r)
		spoil(one, 66)
		if !same(two, n) {
			t.Errorf("R6: two answers of Look share memory: %v", two)
		}
		checkNode(t, a, r, n, n.Ways.Ways, 0, false)
		spoil(two, 67)
		for i, w := range n.Ways.Ways {
			a.SwapWay(r, i, w, 5)
		}
		a.SetMark(r)
		a.Free(r)
		alloc(t, a, waysNode(1, 2, 3))
		if !spoilt(one, 66) || !spoilt(two, 67) {
			t.Errorf("R6: what Look told is changed by a call behind: %v, %v", one, two)
		}
	}
}

func TestNilArena(t *testing.T) {
	var a *Arena
	for range 2 {
		if r, ok := a.Alloc(waysNode(1)); r != 0 || ok {
			t.Errorf("R7: Alloc is %d, %t", r, ok)
		}
		for _, r := range append(notRight(), ref.Of(0, 1)) {
			for name, call := range eight() {
				if !call(a, r) {
					t.Errorf("R7: %s of %d isn't its zero value", name, r)
				}
			}
			if a.SwapWay(r, 0, 0, 0) || a.SwapWay(r, -1, 0, 1) || a.SwapInfo(r, 0, 0) {
				t.Errorf("R7: a swap of %d is true", r)
			}
		}
		if a.Used() != 0 || a.Faults() != 0 || a.Most() != 0 {
			t.Errorf("R7: Used, Faults, Most are %d, %d, %d", a.Used(), a.Faults(), a.Most())
		}
	}
}

func TestArenasShareNothing(t *testing.T) {
	a, b := New(2), New(3)
	x, y := alloc(t, a, waysNode(1, 2)), alloc(t, b, waysNode(3))
	if x != y {
		t.Errorf("R8: the first references are %d, %d", x, y)
	}
	a.SwapWay(x, 0, 1, 9)
	a.SwapInfo(x, 0, 9)
	a.SetMark(x)
	a.Look(0)
	checkNode(t, b, y, waysNode(3), []ref.Ref{3}, 0, false)
	checkNumbers(t, a, "one of two", 1, 1, 2)
	checkNumbers(t, b, "the other one", 1, 0, 3)
}

func TestExamples(t *testing.T) {
	a := New(5)
	x := alloc(t, a, pairsNode(3))
	if x != 1<<40+1 {
		t.Errorf("P4.1: the first Alloc answers %d", x)
	}
	free(t, a, x)
	if y := alloc(t, a, pairsNode(4)); y != 1<<41+1 {
		t.Errorf("P4.1: freed, and Alloc again: %d", y)
	}
	if n := a.Look(x); !same(n, Node{}) || a.Faults() != 1 {
		t.Errorf("P4.2: Look with the first reference is %v, with %d faults", n, a.Faults())
	}
}

// spot is a place of the plain list: each is told in full, and looked for one by one.
type spot struct {
	used  bool
	times int64
	freed int // when
	node  Node
	ways  []ref.Ref
	info  int64
	mark  bool
}

type plain struct {
	most, faults, now int
	spots             []spot
}

func (m *plain) used() int {
	n := 0
	for _, s := range m.spots {
		if s.used {
			n++
		}
	}
	return n
}

func (m *plain) alloc(n Node) (ref.Ref, bool) {
	if m.used() == m.most {
		return 0, false
	}
	at := -1
	for i, s := range m.spots {
		if !s.used && (at < 0 || s.freed < m.spots[at].freed) {
			at = i
		}
	}
	if at < 0 {
		at = len(m.spots)
		m.spots = append(m.spots, spot{})
	}
	n = copied(n)
	m.spots[at] = spot{used: true, times: m.spots[at].times + 1, node: n, ways: copied(n).Ways.Ways}
	return m.ref(at), true
}

func (m *plain) ref(i int) ref.Ref {
	return ref.Ref(m.spots[i].times*1<<40 + int64(i) + 1)
}

func (m *plain) right(r ref.Ref) *spot {
	for i := range m.spots {
		if m.spots[i].used && m.ref(i) == r {
			return &m.spots[i]
		}
	}
	m.faults++
	return nil
}

// row is calls of all kinds in a row, of an arena and of the plain list.
type row struct {
	t     *testing.T
	dice  *rand.Rand
	arena *Arena
	plain *plain
	told  []ref.Ref
}

// some is a reference that was told once, mostly, or any.
func (w *row) some() ref.Ref {
	if len(w.told) > 0 && w.dice.Intn(10) > 0 {
		return w.told[max(len(w.told)-1-w.dice.Intn(3*w.plain.most+2), 0)]
	}
	return ref.Of(w.dice.Intn(w.plain.most+3)-1, uint32(w.dice.Intn(4)))
}

func (w *row) alloc() {
	all := samples()
	n := all[w.dice.Intn(len(all))]
	got, ok := w.arena.Alloc(n)
	want, room := w.plain.alloc(n)
	if got != want || ok != room {
		w.t.Fatalf("P4.1: Alloc is %d, %t, not %d, %t", got, ok, want, room)
	}
	if ok {
		w.told = append(w.told, got)
	}
}

func (w *row) free() {
	r := w.some()
	got, s := w.arena.Free(r), w.plain.right(r)
	if got != (s != nil) {
		w.t.Fatalf("P4.2: Free(%d) is %t", r, got)
	}
	if s != nil {
		w.plain.now++
		s.used, s.freed = false, w.plain.now
	}
}

func (w *row) look() {
	r := w.some()
	got, s := w.arena.Look(r), w.plain.right(r)
	var want Node
	if s != nil {
		want = s.node
	}
	if !same(got, want) {
		w.t.Fatalf("P4.2: Look(%d) is %v, not %v", r, got, want)
	}
}

func (w *row) way() {
	r, i := w.some(), w.dice.Intn(8)-1
	got, s := w.arena.Way(r, i), w.plain.right(r)
	var want ref.Ref
	if s != nil && i >= 0 && i < len(s.ways) {
		want = s.ways[i]
	}
	if got != want {
		w.t.Fatalf("P4.2: Way(%d, %d) is %d, not %d", r, i, got, want)
	}
}

func (w *row) swapWay() {
	r, i := w.some(), w.dice.Intn(8)-1
	old, now := ref.Ref(w.dice.Intn(9)), ref.Ref(w.dice.Intn(9))
	got, s := w.arena.SwapWay(r, i, old, now), w.plain.right(r)
	want := s != nil && i >= 0 && i < len(s.ways) && s.ways[i] == old
	if got != want {
		w.t.Fatalf("P4.2: SwapWay(%d, %d, %d, %d) is %t", r, i, old, now, got)
	}
	if want {
		s.ways[i] = now
	}
}

func (w *row) infos() {
	r, old, now := w.some(), int64(w.dice.Intn(3)), int64(w.dice.Intn(3))
	got, s := w.arena.SwapInfo(r, old, now), w.plain.right(r)
	want := s != nil && s.info == old
	if got != want {
		w.t.Fatalf("P4.2: SwapInfo(%d, %d, %d) is %t", r, old, now, got)
	}
	if want {
		s.info = now
	}
	r = w.some()
	info, s := w.arena.Info(r), w.plain.right(r)
	if s == nil && info != 0 || s != nil && info != s.info {
		w.t.Fatalf("P4.2: Info(%d) is %d", r, info)
	}
}

func (w *row) marks() {
	r := w.some()
	if w.dice.Intn(3) == 0 {
		w.arena.SetMark(r)
		if s := w.plain.right(r); s != nil {
			s.mark = true
		}
		return
	}
	got, s := w.arena.Mark(r), w.plain.right(r)
	if got != (s != nil && s.mark) {
		w.t.Fatalf("P4.2: Mark(%d) is %t", r, got)
	}
}

func TestCallsInARowAgainstAPlainList(t *testing.T) {
	for seed := range int64(60) {
		dice := rand.New(rand.NewSource(seed))
		most := dice.Intn(12)
		w := &row{t: t, dice: dice, arena: New(most), plain: &plain{most: most}}
		calls := []func(){w.alloc, w.alloc, w.free, w.look, w.way, w.swapWay, w.swapWay, w.infos, w.marks}
		for range 600 {
			calls[dice.Intn(len(calls))]()
			if t.Failed() {
				return
			}
			checkNumbers(t, w.arena, "in a row", w.plain.used(), w.plain.faults, most)
		}
		for i, s := range w.plain.spots {
			if s.used {
				checkNode(t, w.arena, w.plain.ref(i), s.node, s.ways, s.info, s.mark)
			}
		}
	}
}

func TestSameCallsSameAnswers(t *testing.T) {
	run := func() []ref.Ref {
		a, told := New(5), []ref.Ref(nil)
		for i := range 40 {
			if r, ok := a.Alloc(waysNode(ref.Ref(i), 2)); ok {
				told = append(told, r)
			} else {
				a.Free(told[len(told)-1-i%5])
			}
			told = append(told, a.Way(told[0], 0), ref.Ref(a.Used()), ref.Ref(a.Faults()))
		}
		return told
	}
	if one, two := run(), run(); !slices.Equal(one, two) {
		t.Errorf("R8: the same calls answer %v, then %v", one, two)
	}
}
