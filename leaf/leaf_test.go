package leaf

import (
	"maps"
	"math"
	"slices"
	"strconv"
	"testing"
)

const (
	least    = math.MinInt64
	greatest = math.MaxInt64
)

// of makes pairs with these keys, each with a value that tells its place, so that pairs that changed places are seen.
func of(keys ...int64) Leaf {
	l := Leaf{}
	for i, k := range keys {
		l = append(l, Pair{k, int64(100 + i)})
	}
	return l
}

// roomy has pairs of its own behind its length: a call that writes there is seen by checkKept.
func roomy(l Leaf) Leaf {
	wide := make(Leaf, len(l)+4)
	copy(wide, l)
	for i := len(l); i < len(wide); i++ {
		wide[i] = Pair{-777, int64(i)}
	}
	return wide[:len(l)]
}

func whole(l Leaf) Leaf {
	return l[:cap(l)]
}

// spoil changes all of an answer, spare room too, so that memory it shares with something else is seen there.
func spoil(l Leaf) {
	w := whole(l)
	for i := range w {
		w[i] = Pair{-999, -999}
	}
}

func checkPairs(t *testing.T, what string, got, want Leaf) {
	t.Helper()
	if !slices.Equal(got, want) {
		t.Errorf("%s: pairs are %v, not %v", what, got, want)
	}
}

func checkTold(t *testing.T, what string, v int64, ok bool, wantV int64, wantOK bool) {
	t.Helper()
	if v != wantV || ok != wantOK {
		t.Errorf("%s: tells %d, %v, not %d, %v", what, v, ok, wantV, wantOK)
	}
}

// kinds are pairs of all sorts, those whose keys don't rise among them.
func kinds() []Leaf {
	return []Leaf{
		nil,
		{},
		of(4),
		of(least),
		of(greatest),
		of(2, 5),
		of(2, 5, 9),
		of(-3, 0, 1, 8),
		of(least, -1, 0, 1, greatest),
		of(5, 5),
		of(9, 5, 2),
		of(3, 1, 2, 1, 3, 2),
		of(greatest, least, 0),
		of(0, 0, 0, 0, 0),
	}
}

// rising is every choice of these keys, in order: with the least and the greatest of all.
func rising() []Leaf {
	keys := []int64{least, least + 1, -2, 0, 3, greatest - 1, greatest}
	var all []Leaf
	for bits := range 1 << len(keys) {
		var some []int64
		for i, k := range keys {
			if bits>>i&1 == 1 {
				some = append(some, k)
			}
		}
		all = append(all, of(some...))
	}
	return all
}

func probes() []int64 {
	return []int64{least, least + 1, least + 2, -3, -2, -1, 0, 1, 2, 3, 4, greatest - 2, greatest - 1, greatest}
}

func TestGet(t *testing.T) {
	l := Leaf{{-7, 1}, {0, 0}, {2, 20}, {9, -5}}
	for _, c := range []struct {
		key, value int64
		there      bool
	}{
		{-7, 1, true}, {0, 0, true}, {2, 20, true}, {9, -5, true},
		{-8, 0, false}, {-6, 0, false}, {-1, 0, false}, {1, 0, false}, {3, 0, false}, {8, 0, false}, {10, 0, false},
		{least, 0, false}, {greatest, 0, false},
	} {
		v, ok := l.Get(c.key)
		checkTold(t, "P2.1: Get", v, ok, c.value, c.there)
	}
	for _, none := range []Leaf{nil, {}} {
		for _, k := range probes() {
			v, ok := none.Get(k)
			checkTold(t, "P2.1: Get of no pairs", v, ok, 0, false)
		}
	}
	ends := Leaf{{least, 11}, {greatest, 12}}
	v, ok := ends.Get(least)
	checkTold(t, "P2.1: Get of the least key", v, ok, 11, true)
	v, ok = ends.Get(greatest)
	checkTold(t, "P2.1: Get of the greatest key", v, ok, 12, true)
}

func TestPut(t *testing.T) {
	l := Leaf{{2, 20}, {5, 50}, {9, 90}}
	for _, c := range []struct {
		name     string
		from     Leaf
		key      int64
		want     Leaf
		was      int64
		wasThere bool
	}{
		{"into no pairs", Leaf{}, 4, Leaf{{4, 7}}, 0, false},
		{"into nil", nil, 4, Leaf{{4, 7}}, 0, false},
		{"ahead of the first", l, 1, Leaf{{1, 7}, {2, 20}, {5, 50}, {9, 90}}, 0, false},
		{"between the first two", l, 3, Leaf{{2, 20}, {3, 7}, {5, 50}, {9, 90}}, 0, false},
		{"between the last two", l, 6, Leaf{{2, 20}, {5, 50}, {6, 7}, {9, 90}}, 0, false},
		{"behind the last", l, 10, Leaf{{2, 20}, {5, 50}, {9, 90}, {10, 7}}, 0, false},
		{"the least key", l, least, Leaf{{least, 7}, {2, 20}, {5, 50}, {9, 90}}, 0, false},
		{"the greatest key", l, greatest, Leaf{{2, 20}, {5, 50}, {9, 90}, {greatest, 7}}, 0, false},
		{"the first one's value", l, 2, Leaf{{2, 7}, {5, 50}, {9, 90}}, 20, true},
		{"a middle one's value", l, 5, Leaf{{2, 20}, {5, 7}, {9, 90}}, 50, true},
		{"the last one's value", l, 9, Leaf{{2, 20}, {5, 50}, {9, 7}}, 90, true},
		{"the only one's value", Leaf{{5, 50}}, 5, Leaf{{5, 7}}, 50, true},
		{"the same value", Leaf{{5, 7}}, 5, Leaf{{5, 7}}, 7, true},
		{"a value that was 0", Leaf{{5, 0}}, 5, Leaf{{5, 7}}, 0, true},
		{"the least key's value", Leaf{{least, 1}, {greatest, 2}}, least, Leaf{{least, 7}, {greatest, 2}}, 1, true},
		{"the greatest key's value", Leaf{{least, 1}, {greatest, 2}}, greatest, Leaf{{least, 1}, {greatest, 7}}, 2, true},
	} {
		got, was, ok := c.from.Put(c.key, 7)
		checkPairs(t, "P2.1: Put "+c.name, got, c.want)
		checkTold(t, "P2.1: Put "+c.name, was, ok, c.was, c.wasThere)
	}
}

func TestCut(t *testing.T) {
	l := Leaf{{2, 20}, {5, 0}, {9, 90}}
	for _, c := range []struct {
		name     string
		from     Leaf
		key      int64
		want     Leaf
		was      int64
		wasThere bool
	}{
		{"of no pairs", Leaf{}, 4, nil, 0, false},
		{"of nil", nil, 0, nil, 0, false},
		{"ahead of the first", l, 1, l, 0, false},
		{"between two", l, 4, l, 0, false},
		{"behind the last", l, 10, l, 0, false},
		{"the least key, that isn't there", l, least, l, 0, false},
		{"the greatest key, that isn't there", l, greatest, l, 0, false},
		{"the first", l, 2, Leaf{{5, 0}, {9, 90}}, 20, true},
		{"a middle one", l, 5, Leaf{{2, 20}, {9, 90}}, 0, true},
		{"the last", l, 9, Leaf{{2, 20}, {5, 0}}, 90, true},
		{"the only one", Leaf{{5, 50}}, 5, nil, 50, true},
		{"the least key", Leaf{{least, 1}, {greatest, 2}}, least, Leaf{{greatest, 2}}, 1, true},
		{"the greatest key", Leaf{{least, 1}, {greatest, 2}}, greatest, Leaf{{least, 1}}, 2, true},
	} {
		got, was, ok := c.from.Cut(c.key)
		checkPairs(t, "P2.1: Cut "+c.name, got, c.want)
		checkTold(t, "P2.1: Cut "+c.name, was, ok, c.was, c.wasThere)
	}
}

func asMap(l Leaf) map[int64]int64 {
	m := map[int64]int64{}
	for _, p := range l {
		m[p.Key] = p.Value
	}
	return m
}

func asLeaf(m map[int64]int64) Leaf {
	var l Leaf
	for _, k := range slices.Sorted(maps.Keys(m)) {
		l = append(l, Pair{k, m[k]})
	}
	return l
}

func TestEveryKeyOfEveryChoice(t *testing.T) {
	for _, l := range rising() {
		for _, k := range probes() {
			m := asMap(l)
			want, there := m[k]
			v, ok := l.Get(k)
			checkTold(t, "P2.1: Get", v, ok, want, there)

			m[k] = 31
			put, was, ok := l.Put(k, 31)
			checkTold(t, "P2.1: Put", was, ok, want, there)
			checkPairs(t, "P2.1: Put", put, asLeaf(m))

			delete(m, k)
			cut, was, ok := l.Cut(k)
			checkTold(t, "P2.1: Cut", was, ok, want, there)
			checkPairs(t, "P2.1: Cut", cut, asLeaf(m))
		}
	}
}

// chainKey makes keys that come back often, with the two ends of an int64 among them.
func chainKey(n uint64) int64 {
	switch n % 43 {
	case 41:
		return least
	case 42:
		return greatest
	}
	return int64(n%43) - 20
}

// cutsAt lets a chain grow for a thousand steps, then shrink for as many, and so on.
func cutsAt(step int, n uint64) bool {
	seldom := n%3 == 0
	if step/1000%2 == 0 {
		return seldom
	}
	return !seldom
}

func TestChainAgainstMap(t *testing.T) {
	l, m := Leaf{}, map[int64]int64{}
	n := uint64(1)
	for step := range 6000 {
		n = n*6364136223846793005 + 1442695040888963407
		k, v := chainKey(n>>33), int64(n)
		want, there := m[k]
		got, ok := l.Get(k)
		checkTold(t, "P2.1: Get in a chain", got, ok, want, there)
		var was int64
		if cutsAt(step, n>>60) {
			l, was, ok = l.Cut(k)
			delete(m, k)
		} else {
			l, was, ok = l.Put(k, v)
			m[k] = v
		}
		checkTold(t, "P2.1: a change in a chain", was, ok, want, there)
		checkPairs(t, "P2.1: a chain", l, asLeaf(m))
		if !l.Rises() {
			t.Fatalf("P2.2: a chain's keys don't rise: %v", l)
		}
		if t.Failed() {
			t.Fatalf("at step %d", step)
		}
	}
}

func TestKeysThatDoNotRise(t *testing.T) {
	// What is answered of these is left open; that the calls end, and don't panic, isn't (P1).
	for _, l := range kinds() {
		for _, k := range probes() {
			l.Get(k)
			l.Put(k, 1)
			l.Cut(k)
		}
	}
}

func TestHalves(t *testing.T) {
	for _, c := range []struct {
		name        string
		l           Leaf
		first, rest Leaf
		key         int64
	}{
		{"nil", nil, nil, nil, 0},
		{"no pairs", Leaf{}, nil, nil, 0},
		{"one", Leaf{{4, 1}}, nil, Leaf{{4, 1}}, 4},
		{"one of the least key", Leaf{{least, 1}}, nil, Leaf{{least, 1}}, least},
		{"two", Leaf{{4, 1}, {6, 2}}, Leaf{{4, 1}}, Leaf{{6, 2}}, 6},
		{"three", Leaf{{2, 1}, {5, 2}, {9, 3}}, Leaf{{2, 1}}, Leaf{{5, 2}, {9, 3}}, 5},
		{"four", Leaf{{2, 1}, {5, 2}, {9, 3}, {greatest, 4}}, Leaf{{2, 1}, {5, 2}}, Leaf{{9, 3}, {greatest, 4}}, 9},
		{"five", of(1, 2, 3, 4, 5), Leaf{{1, 100}, {2, 101}}, Leaf{{3, 102}, {4, 103}, {5, 104}}, 3},
		{"falling ones", Leaf{{9, 1}, {5, 2}, {2, 3}}, Leaf{{9, 1}}, Leaf{{5, 2}, {2, 3}}, 5},
		{"equal ones", Leaf{{5, 1}, {5, 2}, {5, 3}, {5, 4}}, Leaf{{5, 1}, {5, 2}}, Leaf{{5, 3}, {5, 4}}, 5},
	} {
		first, rest, key := c.l.Halves()
		checkPairs(t, "P2.2: Halves, the first, of "+c.name, first, c.first)
		checkPairs(t, "P2.2: Halves, the rest, of "+c.name, rest, c.rest)
		if key != c.key {
			t.Errorf("P2.2: Halves of %s: the key is %d, not %d", c.name, key, c.key)
		}
	}
}

func TestHalvesOfEveryNumber(t *testing.T) {
	for n := range int64(70) {
		var l Leaf
		for i := range n {
			l = append(l, Pair{10 * (i + 1), i})
		}
		first, rest, key := l.Halves()
		if len(first) != int(n/2) || len(rest) != int(n-n/2) {
			t.Errorf("P2.2: Halves of %d pairs: %d and %d", n, len(first), len(rest))
		}
		if want := 10 * (n/2 + 1); n > 0 && key != want {
			t.Errorf("P2.2: Halves of %d pairs: the key is %d, not %d", n, key, want)
		}
		checkPairs(t, "P2.2: Halves, joined", first.Join(rest), l)
	}
}

func TestJoin(t *testing.T) {
	a, b := Leaf{{1, 10}, {2, 20}}, Leaf{{3, 30}, {4, 40}, {5, 50}}
	for _, c := range []struct {
		name       string
		l, o, want Leaf
	}{
		{"both", a, b, Leaf{{1, 10}, {2, 20}, {3, 30}, {4, 40}, {5, 50}}},
		{"the other way", b, a, Leaf{{3, 30}, {4, 40}, {5, 50}, {1, 10}, {2, 20}}},
		{"with itself", a, a, Leaf{{1, 10}, {2, 20}, {1, 10}, {2, 20}}},
		{"none to the left", Leaf{}, b, b},
		{"nil to the left", nil, b, b},
		{"none to the right", a, Leaf{}, a},
		{"nil to the right", a, nil, a},
		{"none of both", Leaf{}, Leaf{}, nil},
		{"nil both", nil, nil, nil},
		{"the ends", Leaf{{greatest, 1}}, Leaf{{least, 2}}, Leaf{{greatest, 1}, {least, 2}}},
	} {
		checkPairs(t, "P2.2: Join, "+c.name, c.l.Join(c.o), c.want)
	}
	for _, l := range kinds() {
		for _, o := range kinds() {
			checkPairs(t, "P2.2: Join", l.Join(o), slices.Concat(l, o))
		}
	}
}

func TestRises(t *testing.T) {
	for _, c := range []struct {
		l    Leaf
		want bool
	}{
		{nil, true},
		{Leaf{}, true},
		{of(4), true},
		{of(least), true},
		{of(greatest), true},
		{of(4, 5), true},
		{of(least, greatest), true},
		{of(least, least+1, 0, greatest-1, greatest), true},
		{of(5, 5), false},
		{of(least, least), false},
		{of(greatest, greatest), false},
		{of(5, 4), false},
		{of(greatest, least), false},
		{of(0, least), false},
		{of(1, 1, 2, 3), false},
		{of(1, 2, 2, 3), false},
		{of(1, 2, 3, 3), false},
		{of(2, 1, 3, 4), false},
		{of(1, 3, 2, 4), false},
		{of(1, 2, 4, 3), false},
		{of(9, 5, 2), false},
		// Keys alone are held against each other, not values.
		{Leaf{{1, 9}, {2, 5}, {3, 5}}, true},
		{Leaf{{1, 5}, {1, 6}}, false},
	} {
		if got := c.l.Rises(); got != c.want {
			t.Errorf("P2.2: Rises of %v is %v", c.l, got)
		}
	}
	for _, l := range rising() {
		if !l.Rises() {
			t.Errorf("P2.2: Rises of %v is false", l)
		}
	}
}

func TestBetween(t *testing.T) {
	l := Leaf{{2, 20}, {5, 50}, {9, 90}, {12, 120}}
	ends := Leaf{{least, 1}, {0, 2}, {greatest, 3}}
	mixed := Leaf{{9, 1}, {2, 2}, {5, 3}, {2, 4}, {7, 5}}
	for _, c := range []struct {
		name     string
		l        Leaf
		from, to int64
		want     Leaf
	}{
		{"both bounds are keys", l, 5, 9, Leaf{{5, 50}, {9, 90}}},
		{"neither bound is", l, 3, 10, Leaf{{5, 50}, {9, 90}}},
		{"from is", l, 5, 10, Leaf{{5, 50}, {9, 90}}},
		{"to is", l, 3, 9, Leaf{{5, 50}, {9, 90}}},
		{"all, just so", l, 2, 12, l},
		{"all", l, least, greatest, l},
		{"one key alone", l, 9, 9, Leaf{{9, 90}}},
		{"one that isn't there alone", l, 8, 8, nil},
		{"a gap", l, 6, 8, nil},
		{"below all", l, least, 1, nil},
		{"above all", l, 13, greatest, nil},
		{"from above to", l, 9, 5, nil},
		{"the greatest up to the least", l, greatest, least, nil},
		{"of no pairs", Leaf{}, least, greatest, nil},
		{"of nil", nil, 0, 0, nil},
		{"the ends", ends, least, greatest, ends},
		{"the least alone", ends, least, least, Leaf{{least, 1}}},
		{"the greatest alone", ends, greatest, greatest, Leaf{{greatest, 3}}},
		{"without the ends", ends, least + 1, greatest - 1, Leaf{{0, 2}}},
		{"the greatest up to the least, both there", ends, greatest, least, nil},
		{"keys that don't rise", mixed, 2, 7, Leaf{{2, 2}, {5, 3}, {2, 4}, {7, 5}}},
		{"keys that don't rise, one key", mixed, 2, 2, Leaf{{2, 2}, {2, 4}}},
		{"keys that don't rise, all", mixed, least, greatest, mixed},
		{"keys that don't rise, from above to", mixed, 7, 2, nil},
		{"keys that fall", of(9, 5, 2), 2, 5, Leaf{{5, 101}, {2, 102}}},
	} {
		checkPairs(t, "P2.2: Between, "+c.name, c.l.Between(c.from, c.to), c.want)
	}
}

func TestBetweenAtAllBounds(t *testing.T) {
	for _, l := range append(rising(), kinds()...) {
		for _, from := range probes() {
			for _, to := range probes() {
				want := slices.DeleteFunc(slices.Clone(l), func(p Pair) bool { return p.Key < from || p.Key > to })
				checkPairs(t, "P2.2: Between", l.Between(from, to), want)
			}
		}
	}
}

// calls are all that answers pairs, each with lists handed in, and lists answered.
func calls() map[string]func(l, o Leaf) []Leaf {
	all := map[string]func(l, o Leaf) []Leaf{
		"Join":       func(l, o Leaf) []Leaf { return []Leaf{l.Join(o)} },
		"Join, none": func(l, o Leaf) []Leaf { return []Leaf{l.Join(nil), Leaf(nil).Join(o)} },
		"Halves": func(l, o Leaf) []Leaf {
			first, rest, _ := l.Halves()
			return []Leaf{first, rest}
		},
		"Rises": func(l, o Leaf) []Leaf { l.Rises(); return nil },
		"Get":   func(l, o Leaf) []Leaf { l.Get(2); return nil },
	}
	for _, k := range []int64{least, -3, 1, 2, 4, 5, 9, greatest} {
		name := strconv.FormatInt(k, 10)
		all["Put "+name] = func(l, o Leaf) []Leaf { m, _, _ := l.Put(k, 1); return []Leaf{m} }
		all["Cut "+name] = func(l, o Leaf) []Leaf { m, _, _ := l.Cut(k); return []Leaf{m} }
		all["Between "+name] = func(l, o Leaf) []Leaf { return []Leaf{l.Between(k, greatest), l.Between(least, k)} }
	}
	return all
}

func checkKept(t *testing.T, name string, call func(l, o Leaf) []Leaf, a, b Leaf) {
	t.Helper()
	l, o := roomy(a), roomy(b)
	wasL, wasO := slices.Clone(whole(l)), slices.Clone(whole(o))
	answers := call(l, o)
	checkPairs(t, "R6: behind "+name, whole(l), wasL)
	checkPairs(t, "R6: behind "+name, whole(o), wasO)
	for i := range answers {
		var others []Leaf
		for _, x := range answers {
			others = append(others, slices.Clone(x))
		}
		spoil(answers[i])
		for j := range answers {
			if j != i {
				checkPairs(t, "R6: an answer beside a changed one, of "+name, answers[j], others[j])
			}
		}
	}
	checkPairs(t, "R6: behind a change of what was answered, of "+name, whole(l), wasL)
	checkPairs(t, "R6: behind a change of what was answered, of "+name, whole(o), wasO)
}

func TestHandedInStays(t *testing.T) {
	for name, call := range calls() {
		for _, a := range kinds() {
			for _, b := range kinds() {
				checkKept(t, name, call, a, b)
			}
		}
	}
}

// A change of what was handed in must not be seen in an answer either, since nothing of it is kept.
func TestAnswersStay(t *testing.T) {
	for name, call := range calls() {
		for _, a := range kinds() {
			l, o := roomy(a), roomy(of(3, 6))
			answers := call(l, o)
			var was []Leaf
			for _, x := range answers {
				was = append(was, slices.Clone(x))
			}
			spoil(l)
			spoil(o)
			for i, x := range answers {
				checkPairs(t, "R6: an answer, behind a change of what was handed in, of "+name, x, was[i])
			}
		}
	}
}

func TestSharedMemoryHandedIn(t *testing.T) {
	all := of(1, 2, 3, 4, 5, 6)
	was := slices.Clone(all)
	checkPairs(t, "P2.2: Join of neighbours in one memory", all[:3].Join(all[3:]), was)
	checkPairs(t, "P2.2: Join of overlapping ones", all[2:5].Join(all[:3]), slices.Concat(was[2:5], was[:3]))
	all[:3].Put(9, 9)
	all[:3].Put(2, 9)
	all[:3].Cut(1)
	checkPairs(t, "R6: what lies behind a slice's length", all, was)
}

func TestSameArgumentsSameAnswer(t *testing.T) {
	for name, call := range calls() {
		for _, a := range kinds() {
			// A capacity must not be seen in an answer.
			first, again := call(a, of(3, 6)), call(roomy(a), roomy(of(3, 6)))
			for i := range first {
				checkPairs(t, "R8: "+name, again[i], first[i])
			}
		}
	}
}

func TestNilAndEmptyAreTheSame(t *testing.T) {
	for name, call := range calls() {
		first, again := call(nil, nil), call(Leaf{}, Leaf{})
		for i := range first {
			checkPairs(t, "R5: "+name, again[i], first[i])
		}
	}
}

func TestExamples(t *testing.T) {
	first, rest, key := of(2, 5, 9).Halves()
	if len(first) != 1 || len(rest) != 2 || key != 5 {
		t.Errorf("P2.2: Halves of 2, 5, 9: %v, %v, %d", first, rest, key)
	}
	if !(Leaf{}).Rises() || !of(7).Rises() {
		t.Error("P2.2: Rises of no pairs, and of one, is true")
	}
	checkPairs(t, "P2.2: Between(3, 2)", of(2, 3).Between(3, 2), nil)
}
