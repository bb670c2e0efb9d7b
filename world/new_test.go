package world

import (
	"math"
	"testing"

	"boscage/api"
	"boscage/arena"
	"boscage/record"
	"boscage/ref"
)

// five are what New is handed.
type five struct{ a, b, threads, nodes, records int }

func (f five) make() (*World, api.Errno) {
	return New(f.a, f.b, f.threads, f.nodes, f.records)
}

// far are numbers that no argument may be, some of which would be right if they were cut to fewer bits.
func far() []int {
	return []int{
		math.MinInt64, math.MinInt64 + 1, math.MinInt64 + 2, math.MinInt64 + 16, math.MinInt64/2 + 2, -1 << 32, -1<<32 + 3, -65536, -64, -33, -32, -16, -3, -2, -1,
		1 << 17, 1 << 32, 1<<32 + 2, 1<<32 + 3, 1<<32 + 16, 1 << 62, 1<<62 + 1, 1<<62 + 2, 1<<62 + 3, math.MaxInt64 - 1, math.MaxInt64,
	}
}

func refused(t *testing.T, f five) {
	t.Helper()
	if w, e := f.make(); w != nil || e != api.ErrRange {
		t.Errorf("P8.1: New%v is %v, %d, not nil, ErrRange", f, w, e)
	}
}

// taken holds a world that is new against the chapter's words.
func taken(t *testing.T, f five) {
	t.Helper()
	w, e := f.make()
	if w == nil || e != api.OK {
		t.Errorf("P8.1: New%v is %v, %d", f, w, e)
		return
	}
	if w.A != f.a || w.B != f.b {
		t.Errorf("P8.1: of New%v A is %d, B %d", f, w.A, w.B)
	}
	if w.Arena.Most() != f.nodes || w.Arena.Used() != 2 || w.Arena.Faults() != 0 {
		t.Errorf("P8.1: New%v has %d places, %d are used, %d faults", f, w.Arena.Most(), w.Arena.Used(), w.Arena.Faults())
	}
	if w.Records.Len() != 0 {
		t.Errorf("P8.1: New%v has %d records", f, w.Records.Len())
	}
	if w.Epochs.Len() != f.threads || w.Epochs.Now() != 0 || w.Epochs.Limbo() != 0 {
		t.Errorf("P8.1: New%v has %d threads, epoch %d, %d wait", f, w.Epochs.Len(), w.Epochs.Now(), w.Epochs.Limbo())
	}
	for i := range f.threads {
		if w.Epochs.Said(i) != -1 {
			t.Errorf("P8.1: thread %d of New%v announced %d", i, f, w.Epochs.Said(i))
		}
	}
	firstNodes(t, w)
}

// firstNodes: an empty leaf at place 0, the entry at place 1, nobody having been at them.
func firstNodes(t *testing.T, w *World) {
	t.Helper()
	leaf := ref.Of(0, 1)
	if w.Entry != ref.Of(1, 1) {
		t.Errorf("P8.1: the entry is %d, not the second node", w.Entry)
	}
	if n := w.Arena.Look(leaf); n.Inner || n.Tagged || len(n.Pairs) != 0 || len(n.Ways.Keys) != 0 || len(n.Ways.Ways) != 0 {
		t.Errorf("P8.1: the first node is %v, not an empty leaf", n)
	}
	n := w.Arena.Look(w.Entry)
	if !n.Inner || n.Tagged || len(n.Pairs) != 0 || len(n.Ways.Keys) != 0 || len(n.Ways.Ways) != 1 || n.Ways.Ways[0] != leaf {
		t.Errorf("P8.1: the entry is %v, not an inner node with one way, the leaf", n)
	}
	if w.Arena.Way(w.Entry, 0) != leaf || w.Arena.Way(w.Entry, 1) != 0 || w.Arena.Way(leaf, 0) != 0 {
		t.Errorf("P8.1: the entry's ways are %d, %d, the leaf's %d", w.Arena.Way(w.Entry, 0), w.Arena.Way(w.Entry, 1), w.Arena.Way(leaf, 0))
	}
	for _, r := range []ref.Ref{leaf, w.Entry} {
		if w.Arena.Info(r) != 0 || w.Arena.Mark(r) {
			t.Errorf("P8.1: node %d has record %d, marked: %t", r, w.Arena.Info(r), w.Arena.Mark(r))
		}
	}
	if w.Arena.Faults() != 0 {
		t.Errorf("P8.1: %d faults", w.Arena.Faults())
	}
}

func TestNewOfAAndB(t *testing.T) {
	for a := -4; a <= 70; a++ {
		for b := -8; b <= 150; b++ {
			f := five{a, b, 2, 4, 3}
			if a >= 2 && a <= 32 && b >= 2*a-1 && b <= 32 {
				taken(t, f)
			} else {
				refused(t, f)
			}
		}
	}
	for _, n := range far() {
		for _, m := range append(far(), 0, 1, 2, 3, 16, 31, 32, 33) {
			refused(t, five{n, m, 2, 4, 3})
			refused(t, five{m, n, 2, 4, 3})
		}
	}
}

func TestNewOfBJustBelowAndAtTheLeast(t *testing.T) {
	for a := 2; a <= 16; a++ {
		refused(t, five{a, 2*a - 2, 1, 2, 0})
		taken(t, five{a, 2*a - 1, 1, 2, 0})
		taken(t, five{a, 32, 1, 2, 0})
		refused(t, five{a, 33, 1, 2, 0})
	}
	// From 17 on the least b is above the greatest.
	for a := 17; a <= 32; a++ {
		for b := range 70 {
			refused(t, five{a, b, 1, 2, 0})
		}
	}
}

func TestNewOfThreadsNodesRecords(t *testing.T) {
	for _, n := range []int{1, 2, 3, 7, 31, 32, 33, 63, 64} {
		taken(t, five{2, 3, n, 5, 5})
	}
	for _, n := range append(far(), 0, 65, 66, 128, 65536) {
		refused(t, five{2, 3, n, 5, 5})
	}
	for _, n := range []int{2, 3, 4, 64, 65, 1000, 65535, 65536} {
		taken(t, five{2, 3, 5, n, 5})
	}
	for _, n := range append(far(), 0, 1, 65537, 65538) {
		refused(t, five{2, 3, 5, n, 5})
	}
	for _, n := range []int{0, 1, 2, 64, 65, 1000, 65535, 65536} {
		taken(t, five{2, 3, 5, 5, n})
	}
	for _, n := range append(far(), 65537, 65538) {
		refused(t, five{2, 3, 5, 5, n})
	}
	taken(t, five{2, 3, 1, 2, 0})
	taken(t, five{16, 32, 64, 65536, 65536})
}

func TestNewOfSeveralThatMayNotBe(t *testing.T) {
	right := [5]int{2, 3, 1, 2, 0}
	wrong := [5]int{1, 2, 0, 1, -1}
	above := [5]int{33, 33, 65, 65537, 65537}
	for _, bad := range [][5]int{wrong, above} {
		for mask := 1; mask < 32; mask++ {
			args := right
			for i := range args {
				if mask>>i&1 == 1 {
					args[i] = bad[i]
				}
			}
			refused(t, five{args[0], args[1], args[2], args[3], args[4]})
		}
	}
}

func TestNewHasRoomForSoMany(t *testing.T) {
	for _, c := range []struct{ threads, nodes, records int }{
		{1, 2, 0}, {2, 3, 1}, {3, 9, 4}, {64, 100, 70}, {5, 65535, 65535}, {64, 65536, 65536},
	} {
		w, e := New(2, 32, c.threads, c.nodes, c.records)
		if e != api.OK {
			t.Fatalf("P8.1: %d", e)
		}
		for i := 2; i < c.nodes; i++ {
			if r, ok := w.Arena.Alloc(arena.Node{}); !ok || r != ref.Of(i, 1) {
				t.Fatalf("P8.1: node %d of %d is %d, %t", i, c.nodes, r, ok)
			}
		}
		if r, ok := w.Arena.Alloc(arena.Node{}); ok {
			t.Errorf("P8.1: a node behind %d: %d", c.nodes, r)
		}
		for i := range c.records {
			if n, ok := w.Records.Make(record.Record{}); !ok || n != int64(i+1) {
				t.Fatalf("P8.1: record %d of %d is %d, %t", i+1, c.records, n, ok)
			}
		}
		if n, ok := w.Records.Make(record.Record{}); ok {
			t.Errorf("P8.1: a record behind %d: %d", c.records, n)
		}
		for i := range c.threads + 1 {
			w.Epochs.Say(i, 5)
			if said := w.Epochs.Said(i); (said == 5) != (i < c.threads) {
				t.Errorf("P8.1: thread %d of %d announced %d", i, c.threads, said)
			}
		}
	}
}

func TestWorldsShareNothing(t *testing.T) {
	w, v := made(t, 2, 5), made(t, 2, 5)
	work := asTask(w, 1, nil, []act{{kind: begin}, {kind: mak, to: 1}, {kind: leave, slots: []int{1}}})
	for !work.Step() {
	}
	w.Arena.SwapWay(w.Entry, 0, ref.Of(0, 1), 9)
	w.Arena.SetMark(w.Entry)
	w.Records.Make(record.Record{})
	if v.Arena.Used() != 2 || v.Records.Len() != 0 || v.Epochs.Now() != 0 || v.Epochs.Said(1) != -1 || v.Epochs.Limbo() != 0 {
		t.Error("P2, R8: what is done in one world is seen in another one")
	}
	firstNodes(t, v)
	firstNodes(t, made(t, 2, 5))
}
