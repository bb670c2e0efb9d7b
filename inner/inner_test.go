package inner

import (
	"math"
	"slices"
	"strconv"
	"testing"

	"boscage/ref"
)

const (
	least    = math.MinInt64
	greatest = math.MaxInt64
)

// of makes one with so many ways, each telling its place, and with these keys.
func of(ways int, keys ...int64) Inner {
	n := Inner{Keys: keys}
	for i := range ways {
		n.Ways = append(n.Ways, ref.Ref(100+i))
	}
	return n
}

// on makes one with these keys, and one way more.
func on(keys ...int64) Inner {
	return of(len(keys)+1, keys...)
}

// fitting have one key fewer than ways; the keys of the last ones don't rise.
func fitting() []Inner {
	return []Inner{
		on(),
		{Keys: []int64{}, Ways: []ref.Ref{0}},
		on(4),
		on(least),
		on(greatest),
		on(3, 5),
		on(least, greatest),
		on(3, 5, 9),
		on(-3, 0, 1, 8),
		on(least, -1, 0, 1, greatest),
		on(least, least+1, -7, 7, greatest-1, greatest),
		on(5, 5),
		on(9, 5, 3),
		on(greatest, 0, least),
		on(3, 1, 2, 1, 3, 2),
	}
}

// unfit haven't one key fewer than ways.
func unfit() []Inner {
	return []Inner{
		{},
		{Keys: []int64{}, Ways: []ref.Ref{}},
		of(0, 7),
		of(0, least, 0, greatest),
		of(1, 3),
		of(1, 3, 5, 9),
		of(2),
		of(2, 3, 5),
		of(2, least, 3, 5, greatest),
		of(3, 5),
		of(3, 3, 5, 9),
		of(4, 9, 5, 3, 1, 0),
		of(5),
		of(9, 4),
	}
}

func all() []Inner {
	return append(fitting(), unfit()...)
}

func probes() []int64 {
	return []int64{least, least + 1, least + 2, -8, -7, -3, -1, 0, 1, 2, 3, 4, 5, 6, 7, 8, 9, 10, greatest - 2, greatest - 1, greatest}
}

// absent are numbers of ways that n doesn't have.
func absent(n Inner) []int {
	w := len(n.Ways)
	return []int{-1, -2, -w, -w - 1, -100, math.MinInt, math.MinInt + 1, w, w + 1, w + 2, w + 100, 1 << 40, math.MaxInt - 1, math.MaxInt}
}

// woven lays a fitting one out as way, key, way, .., way: the changes are then told on one list, unlike in the package.
func woven(n Inner) []int64 {
	var l []int64
	for i, w := range n.Ways {
		if i > 0 {
			l = append(l, n.Keys[i-1])
		}
		l = append(l, int64(w))
	}
	return l
}

func unwoven(l []int64) Inner {
	var n Inner
	for i, x := range l {
		if i%2 == 0 {
			n.Ways = append(n.Ways, ref.Ref(x))
		} else {
			n.Keys = append(n.Keys, x)
		}
	}
	return n
}

func check(t *testing.T, what string, got, want Inner) {
	t.Helper()
	if !slices.Equal(got.Keys, want.Keys) || !slices.Equal(got.Ways, want.Ways) {
		t.Errorf("%s: it is %v, not %v", what, got, want)
	}
}

func TestWay(t *testing.T) {
	n := on(-4, 3, 5, 9)
	for _, c := range []struct {
		key  int64
		want int
	}{
		{least, 0}, {-100, 0}, {-5, 0},
		{-4, 1}, {-3, 1}, {0, 1}, {2, 1},
		{3, 2}, {4, 2},
		{5, 3}, {6, 3}, {8, 3},
		{9, 4}, {10, 4}, {1000, 4}, {greatest, 4},
	} {
		if got := n.Way(c.key); got != c.want {
			t.Errorf("P3.1: Way(%d) of %v is %d, not %d", c.key, n, got, c.want)
		}
	}
}

func TestWayAtTheEnds(t *testing.T) {
	for _, c := range []struct {
		n    Inner
		key  int64
		want int
	}{
		{on(least), least, 1},
		{on(least), least + 1, 1},
		{on(least), greatest, 1},
		{on(greatest), least, 0},
		{on(greatest), greatest - 1, 0},
		{on(greatest), greatest, 1},
		{on(least, greatest), least, 1},
		{on(least, greatest), 0, 1},
		{on(least, greatest), greatest - 1, 1},
		{on(least, greatest), greatest, 2},
		{on(least+1, greatest-1), least, 0},
		{on(least+1, greatest-1), greatest, 2},
		{on(0), least, 0},
		{on(0), greatest, 1},
	} {
		if got := c.n.Way(c.key); got != c.want {
			t.Errorf("P3.1: Way(%d) of keys %v is %d, not %d", c.key, c.n.Keys, got, c.want)
		}
	}
}

func TestWayOfOneWay(t *testing.T) {
	for _, n := range []Inner{on(), {Keys: []int64{}, Ways: []ref.Ref{0}}} {
		for _, k := range probes() {
			if got := n.Way(k); got != 0 {
				t.Errorf("P3.1: Way(%d) of one way is %d", k, got)
			}
		}
	}
}

// rising is every choice of these keys, in order.
func rising() []Inner {
	keys := []int64{least, least + 1, -2, 0, 3, greatest - 1, greatest}
	var all []Inner
	for bits := range 1 << len(keys) {
		var some []int64
		for i, k := range keys {
			if bits>>i&1 == 1 {
				some = append(some, k)
			}
		}
		all = append(all, on(some...))
	}
	return all
}

func notAbove(keys []int64, k int64) int {
	count := 0
	for _, x := range keys {
		if x <= k {
			count++
		}
	}
	return count
}

func TestWayOfEveryChoice(t *testing.T) {
	for _, n := range rising() {
		for _, k := range probes() {
			if got, want := n.Way(k), notAbove(n.Keys, k); got != want {
				t.Errorf("P3.1: Way(%d) of keys %v is %d, not %d", k, n.Keys, got, want)
			}
		}
	}
}

func TestWayOfMany(t *testing.T) {
	for count := range 70 {
		var keys []int64
		for i := range count {
			keys = append(keys, int64(10*i))
		}
		n := on(keys...)
		for k := int64(-11); k < int64(10*count+11); k++ {
			if got, want := n.Way(k), notAbove(keys, k); got != want {
				t.Errorf("P3.1: Way(%d) of %d keys is %d, not %d", k, count, got, want)
			}
		}
	}
}

func TestWayOfOnesThatAreNotRight(t *testing.T) {
	for _, n := range all() {
		for _, k := range probes() {
			got := n.Way(k)
			if len(n.Ways) == 0 && got != 0 {
				t.Errorf("P3.1: Way(%d) of %v, that has no ways, is %d", k, n, got)
			}
			if len(n.Ways) > 0 && (got < 0 || got >= len(n.Ways)) {
				t.Errorf("P3.1: Way(%d) of %v is %d: there is no such way", k, n, got)
			}
		}
	}
}

func TestWith(t *testing.T) {
	n := on(3, 5, 9)
	for _, c := range []struct {
		at   int
		want []ref.Ref
	}{
		{0, []ref.Ref{7, 101, 102, 103}},
		{1, []ref.Ref{100, 7, 102, 103}},
		{2, []ref.Ref{100, 101, 7, 103}},
		{3, []ref.Ref{100, 101, 102, 7}},
		{-1, n.Ways},
		{4, n.Ways},
		{1000, n.Ways},
		{math.MinInt, n.Ways},
		{math.MaxInt, n.Ways},
	} {
		check(t, "P3.2: With at "+strconv.Itoa(c.at), n.With(c.at, 7), Inner{Keys: n.Keys, Ways: c.want})
	}
	check(t, "P3.2: With of one way", on().With(0, 7), Inner{Ways: []ref.Ref{7}})
	check(t, "P3.2: With no reference", on(4).With(1, 0), Inner{Keys: []int64{4}, Ways: []ref.Ref{100, 0}})
}

func TestWithOfAll(t *testing.T) {
	for _, n := range fitting() {
		for i := range n.Ways {
			l := woven(n)
			l[2*i] = -5
			check(t, "P3.2: With at "+strconv.Itoa(i), n.With(i, -5), unwoven(l))
		}
	}
}

func TestAbsorb(t *testing.T) {
	n := on(3, 5, 9)
	two := Inner{Keys: []int64{4}, Ways: []ref.Ref{7, 8}}
	one := Inner{Ways: []ref.Ref{7}}
	many := Inner{Keys: []int64{21, 22, 23}, Ways: []ref.Ref{6, 7, 8, 9}}
	for _, c := range []struct {
		name string
		at   int
		o    Inner
		want Inner
	}{
		{"two at the first", 0, two, Inner{[]int64{4, 3, 5, 9}, []ref.Ref{7, 8, 101, 102, 103}}},
		{"two in the midst", 1, two, Inner{[]int64{3, 4, 5, 9}, []ref.Ref{100, 7, 8, 102, 103}}},
		{"two at the last but one", 2, two, Inner{[]int64{3, 5, 4, 9}, []ref.Ref{100, 101, 7, 8, 103}}},
		{"two at the last", 3, two, Inner{[]int64{3, 5, 9, 4}, []ref.Ref{100, 101, 102, 7, 8}}},
		{"one at the first", 0, one, Inner{n.Keys, []ref.Ref{7, 101, 102, 103}}},
		{"one in the midst", 2, one, Inner{n.Keys, []ref.Ref{100, 101, 7, 103}}},
		{"one at the last", 3, one, Inner{n.Keys, []ref.Ref{100, 101, 102, 7}}},
		{"many in the midst", 1, many, Inner{[]int64{3, 21, 22, 23, 5, 9}, []ref.Ref{100, 6, 7, 8, 9, 102, 103}}},
		{"itself", 1, n, Inner{[]int64{3, 3, 5, 9, 5, 9}, []ref.Ref{100, 100, 101, 102, 103, 102, 103}}},
		{"below the first", -1, two, n},
		{"at the number of ways", 4, two, n},
		{"far above", 1000, two, n},
		{"one, at the number of ways", 4, one, n},
		{"none", 1, Inner{}, n},
		{"a key without ways", 1, Inner{Keys: []int64{4}}, n},
		{"as many keys as ways", 1, Inner{[]int64{4}, []ref.Ref{7}}, n},
		{"more keys than ways", 1, Inner{[]int64{4, 5, 6}, []ref.Ref{7, 8}}, n},
		{"two ways without keys", 1, Inner{Ways: []ref.Ref{7, 8}}, n},
		{"far fewer keys than ways", 1, Inner{[]int64{4}, []ref.Ref{7, 8, 9, 10}}, n},
	} {
		check(t, "P3.2: Absorb "+c.name, n.Absorb(c.at, c.o), c.want)
	}
	check(t, "P3.2: Absorb instead of the only way", on().Absorb(0, two), two)
}

func TestAbsorbOfAll(t *testing.T) {
	for _, n := range fitting() {
		for i := range n.Ways {
			for _, o := range fitting() {
				l := slices.Replace(woven(n), 2*i, 2*i+1, woven(o)...)
				check(t, "P3.2: Absorb at "+strconv.Itoa(i), n.Absorb(i, o), unwoven(l))
			}
			for _, o := range unfit() {
				check(t, "P3.2: Absorb of an unfit one at "+strconv.Itoa(i), n.Absorb(i, o), n)
			}
		}
	}
}

func TestHalves(t *testing.T) {
	for _, c := range []struct {
		name        string
		n           Inner
		first, rest Inner
		key         int64
	}{
		{"none", Inner{}, Inner{}, Inner{}, 0},
		{"one way", on(), on(), Inner{}, 0},
		{"two", on(4), Inner{nil, []ref.Ref{100}}, Inner{nil, []ref.Ref{101}}, 4},
		{"two at the least key", on(least), Inner{nil, []ref.Ref{100}}, Inner{nil, []ref.Ref{101}}, least},
		{"three", on(3, 5), Inner{nil, []ref.Ref{100}}, Inner{[]int64{5}, []ref.Ref{101, 102}}, 3},
		{"four", on(3, 5, 9), Inner{[]int64{3}, []ref.Ref{100, 101}}, Inner{[]int64{9}, []ref.Ref{102, 103}}, 5},
		{"five", on(3, 5, 9, greatest), Inner{[]int64{3}, []ref.Ref{100, 101}}, Inner{[]int64{9, greatest}, []ref.Ref{102, 103, 104}}, 5},
		{"falling keys", on(9, 5, 3), Inner{[]int64{9}, []ref.Ref{100, 101}}, Inner{[]int64{3}, []ref.Ref{102, 103}}, 5},
		{"as many keys as ways", of(3, 3, 5, 9), of(3, 3, 5, 9), Inner{}, 0},
		{"more keys than ways", of(2, 3, 5, 9), of(2, 3, 5, 9), Inner{}, 0},
		{"fewer keys than that", of(4, 3, 5), of(4, 3, 5), Inner{}, 0},
		{"ways without keys", of(2), of(2), Inner{}, 0},
		{"a key without ways", of(0, 3), of(0, 3), Inner{}, 0},
		{"one way and a key", of(1, 3), of(1, 3), Inner{}, 0},
	} {
		first, rest, key := c.n.Halves()
		check(t, "P3.2: Halves, the first, of "+c.name, first, c.first)
		check(t, "P3.2: Halves, the rest, of "+c.name, rest, c.rest)
		if key != c.key {
			t.Errorf("P3.2: Halves of %s: the key is %d, not %d", c.name, key, c.key)
		}
	}
}

func TestHalvesOfEveryNumber(t *testing.T) {
	for ways := 2; ways < 70; ways++ {
		var keys []int64
		for i := range ways - 1 {
			keys = append(keys, int64(10*i+7))
		}
		n := on(keys...)
		first, rest, key := n.Halves()
		l, half := woven(n), ways/2
		check(t, "P3.2: Halves, the first", first, unwoven(l[:2*half-1]))
		check(t, "P3.2: Halves, the rest", rest, unwoven(l[2*half:]))
		if key != l[2*half-1] {
			t.Errorf("P3.2: Halves of %d ways: the key is %d, not %d", ways, key, l[2*half-1])
		}
		check(t, "P3.3: Join of halves", first.Join(key, rest), n)
	}
}

func TestMerged(t *testing.T) {
	n := on(3, 5, 9)
	for _, c := range []struct {
		at   int
		want Inner
	}{
		{0, Inner{[]int64{5, 9}, []ref.Ref{7, 102, 103}}},
		{1, Inner{[]int64{3, 9}, []ref.Ref{100, 7, 103}}},
		{2, Inner{[]int64{3, 5}, []ref.Ref{100, 101, 7}}},
		{3, n},
		{4, n},
		{1000, n},
		{-1, n},
		{-2, n},
		{math.MinInt, n},
		{math.MaxInt, n},
	} {
		check(t, "P3.2: Merged at "+strconv.Itoa(c.at), n.Merged(c.at, 7), c.want)
	}
	check(t, "P3.2: Merged of two", on(4).Merged(0, 7), Inner{nil, []ref.Ref{7}})
	check(t, "P3.2: Merged of two at the last", on(4).Merged(1, 7), on(4))
	check(t, "P3.2: Merged of one", on().Merged(0, 7), on())
}

func TestTurned(t *testing.T) {
	n := on(3, 5, 9)
	for _, c := range []struct {
		at   int
		want Inner
	}{
		{0, Inner{[]int64{-6, 5, 9}, []ref.Ref{7, 8, 102, 103}}},
		{1, Inner{[]int64{3, -6, 9}, []ref.Ref{100, 7, 8, 103}}},
		{2, Inner{[]int64{3, 5, -6}, []ref.Ref{100, 101, 7, 8}}},
		{3, n},
		{4, n},
		{1000, n},
		{-1, n},
		{-2, n},
		{math.MinInt, n},
		{math.MaxInt, n},
	} {
		check(t, "P3.2: Turned at "+strconv.Itoa(c.at), n.Turned(c.at, 7, -6, 8), c.want)
	}
	check(t, "P3.2: Turned of two", on(4).Turned(0, 7, greatest, 8), Inner{[]int64{greatest}, []ref.Ref{7, 8}})
	check(t, "P3.2: Turned of two at the last", on(4).Turned(1, 7, 6, 8), on(4))
	check(t, "P3.2: Turned of one", on().Turned(0, 7, 6, 8), on())
}

func TestMergedAndTurnedOfAll(t *testing.T) {
	for _, n := range fitting() {
		last := len(n.Ways) - 1
		for i := range last {
			merged := slices.Replace(woven(n), 2*i, 2*i+3, -5)
			check(t, "P3.2: Merged at "+strconv.Itoa(i), n.Merged(i, -5), unwoven(merged))
			turned := slices.Replace(woven(n), 2*i, 2*i+3, -5, -6, -7)
			check(t, "P3.2: Turned at "+strconv.Itoa(i), n.Turned(i, -5, -6, -7), unwoven(turned))
		}
		check(t, "P3.2: Merged at the last", n.Merged(last, -5), n)
		check(t, "P3.2: Turned at the last", n.Turned(last, -5, -6, -7), n)
	}
}

// checkUntouched: the four that name a way answer n as it is at i.
func checkUntouched(t *testing.T, n Inner, i int) {
	t.Helper()
	at := " at " + strconv.Itoa(i)
	check(t, "P3.2: With"+at, n.With(i, -5), n)
	check(t, "P3.2: Absorb"+at, n.Absorb(i, on(3, 5)), n)
	check(t, "P3.2: Absorb of one way"+at, n.Absorb(i, on()), n)
	check(t, "P3.2: Absorb of none"+at, n.Absorb(i, Inner{}), n)
	check(t, "P3.2: Merged"+at, n.Merged(i, -5), n)
	check(t, "P3.2: Turned"+at, n.Turned(i, -5, -6, -7), n)
}

func TestWaysThatAreNotThere(t *testing.T) {
	for _, n := range all() {
		for _, i := range absent(n) {
			checkUntouched(t, n, i)
		}
	}
}

func TestUnfitOnes(t *testing.T) {
	for _, n := range unfit() {
		for i := -2; i < 12; i++ {
			checkUntouched(t, n, i)
		}
		first, rest, key := n.Halves()
		check(t, "P3.2: Halves, the first, of an unfit one", first, n)
		check(t, "P3.2: Halves, the rest, of an unfit one", rest, Inner{})
		if key != 0 {
			t.Errorf("P3.2: Halves of %v: the key is %d", n, key)
		}
	}
}

func TestJoin(t *testing.T) {
	a := Inner{[]int64{3}, []ref.Ref{1, 2}}
	b := Inner{[]int64{7, 9}, []ref.Ref{4, 5, 6}}
	for _, c := range []struct {
		name       string
		n, o, want Inner
	}{
		{"both", a, b, Inner{[]int64{3, 5, 7, 9}, []ref.Ref{1, 2, 4, 5, 6}}},
		{"the other way", b, a, Inner{[]int64{7, 9, 5, 3}, []ref.Ref{4, 5, 6, 1, 2}}},
		{"with itself", a, a, Inner{[]int64{3, 5, 3}, []ref.Ref{1, 2, 1, 2}}},
		{"one way each", on(), on(), Inner{[]int64{5}, []ref.Ref{100, 100}}},
		{"none to the left", Inner{}, b, Inner{[]int64{5, 7, 9}, b.Ways}},
		{"none to the right", a, Inner{}, Inner{[]int64{3, 5}, a.Ways}},
		{"none of both", Inner{}, Inner{}, Inner{[]int64{5}, nil}},
		{"keys without ways", of(0, 8), of(0, 6), Inner{[]int64{8, 5, 6}, nil}},
		{"ways without keys", of(2), of(3), Inner{[]int64{5}, []ref.Ref{100, 101, 100, 101, 102}}},
		{"keys that don't rise", on(9, 2), on(greatest, least), Inner{[]int64{9, 2, 5, greatest, least}, []ref.Ref{100, 101, 102, 100, 101, 102}}},
	} {
		check(t, "P3.3: Join, "+c.name, c.n.Join(5, c.o), c.want)
	}
	check(t, "P3.3: Join at the least key", on().Join(least, on()), Inner{[]int64{least}, []ref.Ref{100, 100}})
	check(t, "P3.3: Join at the greatest key", on().Join(greatest, on()), Inner{[]int64{greatest}, []ref.Ref{100, 100}})
}

func TestJoinOfAll(t *testing.T) {
	for _, n := range all() {
		for _, o := range all() {
			got := n.Join(-42, o)
			var want Inner
			want.Ways = append(append(want.Ways, n.Ways...), o.Ways...)
			want.Keys = append(append(append(want.Keys, n.Keys...), -42), o.Keys...)
			check(t, "P3.3: Join", got, want)
		}
	}
}

// wide is a list with things of its own behind its length: a call that writes there is seen by checkKept.
func wide[T int64 | ref.Ref](l []T) []T {
	w := make([]T, len(l)+5)
	copy(w, l)
	for i := len(l); i < len(w); i++ {
		w[i] = T(-700 - i)
	}
	return w[:len(l)]
}

func roomy(n Inner) Inner {
	return Inner{Keys: wide(n.Keys), Ways: wide(n.Ways)}
}

// whole: with what lies behind the lists' lengths.
func whole(n Inner) Inner {
	return Inner{Keys: n.Keys[:cap(n.Keys)], Ways: n.Ways[:cap(n.Ways)]}
}

func copied(n Inner) Inner {
	return Inner{Keys: slices.Clone(n.Keys), Ways: slices.Clone(n.Ways)}
}

// spoil changes all of an answer, spare room too, so that memory it shares with something else is seen there.
func spoil(n Inner) {
	w := whole(n)
	for i := range w.Keys {
		w.Keys[i] = -999
	}
	for i := range w.Ways {
		w.Ways[i] = -999
	}
}

type call struct {
	name string
	do   func(n, o Inner) []Inner
}

// calls are all of the package's, each with what is handed in, and what is answered.
func calls() []call {
	all := []call{
		{"Join", func(n, o Inner) []Inner { return []Inner{n.Join(6, o)} }},
		{"Join, none", func(n, o Inner) []Inner { return []Inner{n.Join(6, Inner{}), Inner{}.Join(6, o)} }},
		{"Join with itself", func(n, o Inner) []Inner { return []Inner{n.Join(6, n), o.Join(6, o)} }},
		{"Halves", func(n, o Inner) []Inner {
			first, rest, _ := n.Halves()
			return []Inner{first, rest}
		}},
		{"Way", func(n, o Inner) []Inner { n.Way(4); return nil }},
	}
	for _, i := range []int{-1, 0, 1, 2, 3, 4, 6, 7, 100} {
		at := " at " + strconv.Itoa(i)
		all = append(all,
			call{"With" + at, func(n, o Inner) []Inner { return []Inner{n.With(i, 77)} }},
			call{"Absorb" + at, func(n, o Inner) []Inner { return []Inner{n.Absorb(i, o)} }},
			call{"Absorb of itself" + at, func(n, o Inner) []Inner { return []Inner{n.Absorb(i, n)} }},
			call{"Merged" + at, func(n, o Inner) []Inner { return []Inner{n.Merged(i, 77)} }},
			call{"Turned" + at, func(n, o Inner) []Inner { return []Inner{n.Turned(i, 77, 6, 78)} }})
	}
	return all
}

func copies(l []Inner) []Inner {
	var out []Inner
	for _, n := range l {
		out = append(out, copied(n))
	}
	return out
}

func checkKept(t *testing.T, c call, a, b Inner) {
	t.Helper()
	n, o := roomy(a), roomy(b)
	wasN, wasO := copied(whole(n)), copied(whole(o))
	answers := c.do(n, o)
	check(t, "R6: behind "+c.name, whole(n), wasN)
	check(t, "R6: behind "+c.name, whole(o), wasO)
	for i := range answers {
		was := copies(answers)
		spoil(answers[i])
		for j := range answers {
			if j != i {
				check(t, "R6: an answer beside a changed one, of "+c.name, answers[j], was[j])
			}
		}
	}
	check(t, "R6: behind a change of what was answered, of "+c.name, whole(n), wasN)
	check(t, "R6: behind a change of what was answered, of "+c.name, whole(o), wasO)
}

func TestHandedInStays(t *testing.T) {
	for _, c := range calls() {
		for _, a := range all() {
			for _, b := range all() {
				checkKept(t, c, a, b)
			}
		}
	}
}

// A change of what was handed in must not be seen in an answer either, since nothing of it is kept.
func TestAnswersStay(t *testing.T) {
	for _, c := range calls() {
		for _, a := range all() {
			for _, b := range all() {
				n, o := roomy(a), roomy(b)
				answers := c.do(n, o)
				was := copies(answers)
				spoil(n)
				spoil(o)
				for i, x := range answers {
					check(t, "R6: an answer, behind a change of what was handed in, of "+c.name, x, was[i])
				}
			}
		}
	}
}

// What is added to the first half must not run into the rest.
func TestHalvesAreApart(t *testing.T) {
	for _, n := range fitting() {
		first, rest, _ := n.Halves()
		was := copied(rest)
		_ = append(first.Keys, -1, -2, -3)
		_ = append(first.Ways, -1, -2, -3)
		check(t, "R6: the rest, behind an addition to the first half", rest, was)
	}
}

func TestSharedMemoryHandedIn(t *testing.T) {
	one := on(1, 2, 3, 4, 5)
	was := copied(one)
	low := Inner{Keys: one.Keys[:2], Ways: one.Ways[:3]}
	high := Inner{Keys: one.Keys[3:], Ways: one.Ways[3:]}
	check(t, "P3.3: Join of neighbours in one memory", low.Join(3, high), was)
	check(t, "P3.2: Absorb of a neighbour in one memory", low.Absorb(0, high), Inner{[]int64{4, 5, 1, 2}, []ref.Ref{103, 104, 105, 101, 102}})
	low.With(0, 9)
	low.Merged(0, 9)
	low.Turned(1, 9, 9, 9)
	check(t, "R6: what lies behind a slice's length", one, was)
}

func checkSame(t *testing.T, what string, got, want []Inner) {
	t.Helper()
	if len(got) != len(want) {
		t.Fatalf("%s: %d answers, not %d", what, len(got), len(want))
	}
	for i := range got {
		check(t, what, got[i], want[i])
	}
}

func TestSameArgumentsSameAnswer(t *testing.T) {
	for _, c := range calls() {
		for _, a := range all() {
			for _, b := range all() {
				first := c.do(a, b)
				checkSame(t, "R8: "+c.name, c.do(a, b), first)
				// A capacity must not be seen in an answer.
				checkSame(t, "R8: with spare room, "+c.name, c.do(roomy(a), roomy(b)), first)
			}
		}
	}
}

func TestNilAndEmptyAreTheSame(t *testing.T) {
	empty := Inner{Keys: []int64{}, Ways: []ref.Ref{}}
	for _, c := range calls() {
		checkSame(t, "R5: "+c.name, c.do(empty, empty), c.do(Inner{}, Inner{}))
		oneWay := Inner{Keys: []int64{}, Ways: []ref.Ref{100}}
		checkSame(t, "R5: one way, "+c.name, c.do(oneWay, oneWay), c.do(on(), on()))
	}
}

func TestExamples(t *testing.T) {
	if got := on(3, 5, 9).Way(5); got != 2 {
		t.Errorf("P3.1: Way(5) of keys 3, 5, 9 is %d", got)
	}
	first, rest, key := on(3, 5).Halves()
	if len(first.Ways) != 1 || len(first.Keys) != 0 {
		t.Errorf("P3.2: Halves of keys 3, 5: the first is %v", first)
	}
	if len(rest.Ways) != 2 || !slices.Equal(rest.Keys, []int64{5}) || key != 3 {
		t.Errorf("P3.2: Halves of keys 3, 5: the rest is %v, the key %d", rest, key)
	}
}
