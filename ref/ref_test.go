package ref

import (
	"math"
	"math/big"
	"testing"
)

const (
	places = 1 << 40
	counts = 1 << 23
)

// edges are numbers at, and beside, each bound that the chapter names, of both signs.
func edges() []int64 {
	l := []int64{0, 1, 2, 5, 7, 65535, 65536, 123456789, 1<<52 + 12345, math.MinInt64, math.MaxInt64}
	for _, b := range []uint{22, 23, 24, 31, 32, 39, 40, 41, 62} {
		for d := int64(-3); d <= 3; d++ {
			l = append(l, 1<<b+d, -(1<<b)+d)
		}
	}
	for d := int64(1); d <= 5; d++ {
		l = append(l, -d, math.MinInt64+d, math.MaxInt64-d)
	}
	return l
}

// modulo is Euclid's, in numbers that don't wrap round, so that it leans on no shift of the package's.
func modulo(n *big.Int, m int64) *big.Int {
	return new(big.Int).Mod(n, big.NewInt(m))
}

func wantOf(place int64, count uint32) Ref {
	next := new(big.Int).Add(big.NewInt(place), big.NewInt(1))
	high := modulo(big.NewInt(int64(count)), counts)
	high.Mul(high, big.NewInt(places))
	return Ref(high.Add(high, modulo(next, places)).Int64())
}

func wantPlace(r Ref) int {
	return int(modulo(big.NewInt(int64(r)), places).Int64()) - 1
}

func wantCount(r Ref) uint32 {
	// With a divisor above 0, big's Div rounds down.
	by := new(big.Int).Div(big.NewInt(int64(r)), big.NewInt(places))
	return uint32(modulo(by, counts).Int64())
}

func checkParts(t *testing.T, r Ref, place int, count uint32) {
	t.Helper()
	if got := r.Place(); got != place {
		t.Errorf("P1.1: Place of %d is %d, not %d", r, got, place)
	}
	if got := r.Count(); got != count {
		t.Errorf("P1.1: Count of %d is %d, not %d", r, got, count)
	}
}

func TestOf(t *testing.T) {
	for _, c := range []struct {
		place int
		count uint32
		want  Ref
	}{
		{0, 1, 1<<40 + 1},
		{0, 2, 1<<41 + 1},
		{-1, 0, 0},
		{0, 0, 1},
		{1, 1, 1<<40 + 2},
		{41, 3, 3<<40 + 42},
		{65535, 7, 7<<40 + 65536},
		// counts, modulo 2^23
		{5, counts - 1, (counts-1)<<40 + 6},
		{5, counts, 6},
		{5, counts + 1, 1<<40 + 6},
		{5, 3*counts + 9, 9<<40 + 6},
		{5, math.MaxUint32, (counts-1)<<40 + 6},
		{-1, counts, 0},
		// place and one, modulo 2^40
		{places - 2, 4, 4<<40 + places - 1},
		{places - 1, 4, 4 << 40},
		{places, 4, 4<<40 + 1},
		{places + 1, 4, 4<<40 + 2},
		{3*places + 17, 4, 4<<40 + 18},
		{-1, 4, 4 << 40},
		{-2, 4, 4<<40 + places - 1},
		{-3, 4, 4<<40 + places - 2},
		{-places, 4, 4<<40 + 1},
		{-places - 1, 4, 4 << 40},
		{-places - 2, 4, 4<<40 + places - 1},
		{math.MaxInt64, 4, 4 << 40},
		{math.MaxInt64 - 1, 4, 4<<40 + places - 1},
		{math.MinInt64, 4, 4<<40 + 1},
		{math.MaxInt64, 0, 0},
		{-2, math.MaxUint32, math.MaxInt64},
	} {
		if got := Of(c.place, c.count); got != c.want {
			t.Errorf("P1.1: Of(%d, %d) is %d, not %d", c.place, c.count, got, c.want)
		}
	}
}

func TestOfAtAllEdges(t *testing.T) {
	for _, place := range edges() {
		for _, n := range edges() {
			count := uint32(n)
			got, want := Of(int(place), count), wantOf(place, count)
			if got != want {
				t.Errorf("P1.1: Of(%d, %d) is %d, not %d", place, count, got, want)
			}
			if got < 0 {
				t.Errorf("P1.1: Of(%d, %d) is %d, below 0", place, count, got)
			}
		}
	}
}

func TestPartsOfWhatOfMade(t *testing.T) {
	for _, place := range []int{-1, 0, 1, 2, 1000, 65535, 65536, 1 << 32, places - 3, places - 2} {
		for _, count := range []uint32{0, 1, 2, 1000, 1 << 16, 1 << 22, counts - 2, counts - 1} {
			checkParts(t, Of(place, count), place, count)
		}
	}
	checkParts(t, Of(places-1, 3), -1, 3)
	checkParts(t, Of(places, 3), 0, 3)
	checkParts(t, Of(-2, 3), places-2, 3)
	checkParts(t, Of(8, counts), 8, 0)
	checkParts(t, Of(8, counts+6), 8, 6)
}

func TestPartsOfAnyNumber(t *testing.T) {
	for _, c := range []struct {
		r     Ref
		place int
		count uint32
	}{
		{0, -1, 0},
		{1, 0, 0},
		{places - 1, places - 2, 0},
		{places, -1, 1},
		{places + 1, 0, 1},
		{math.MaxInt64, places - 2, counts - 1},
		{math.MaxInt64 - places, places - 2, counts - 2},
		{math.MaxInt64 - places + 1, -1, counts - 1},
		{-1, places - 2, counts - 1},
		{-2, places - 3, counts - 1},
		{-places + 1, 0, counts - 1},
		{-places, -1, counts - 1},
		{-places - 1, places - 2, counts - 2},
		{math.MinInt64, -1, 0},
		{math.MinInt64 + 1, 0, 0},
		{math.MinInt64 + places, -1, 1},
	} {
		checkParts(t, c.r, c.place, c.count)
	}
}

func TestPartsAtAllEdges(t *testing.T) {
	for _, n := range edges() {
		r := Ref(n)
		checkParts(t, r, wantPlace(r), wantCount(r))
	}
	for i := range int64(64) {
		for d := int64(-2); d <= 2; d++ {
			r := Ref(int64(uint64(1)<<i) + d)
			checkParts(t, r, wantPlace(r), wantCount(r))
		}
	}
}

func TestExamples(t *testing.T) {
	if r := Of(0, 1); r != 1<<40+1 {
		t.Errorf("P1.1: Of(0, 1) is %d", r)
	}
	if r := Of(-1, 0); r != 0 {
		t.Errorf("P1.1: Of(-1, 0) is %d", r)
	}
	checkParts(t, -1, 1<<40-2, 1<<23-1)
	checkParts(t, 0, -1, 0)
}

func TestIntHas64Bits(t *testing.T) {
	n := math.MaxInt
	if uint64(n) != 1<<63-1 {
		t.Errorf("R1: the greatest int is %d", n)
	}
}

func TestSameArgumentsSameAnswer(t *testing.T) {
	for _, n := range edges() {
		first := Of(int(n), uint32(n))
		Of(int(n)+1, uint32(n)+1)
		if again := Of(int(n), uint32(n)); again != first {
			t.Errorf("R8: Of(%d, %d) is %d, then %d", n, uint32(n), first, again)
		}
	}
}
