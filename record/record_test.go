package record

import (
	"math"
	"math/rand"
	"slices"
	"testing"

	"boscage/ref"
)

// sample is a record of so many nodes that tells k in all its parts.
func sample(nodes int, k int64) Record {
	r := Record{Keep: int(k), Way: int(k) + 1, Old: ref.Ref(-k - 2), New: ref.Ref(k + 3)}
	for i := range int64(nodes) {
		r.Nodes = append(r.Nodes, ref.Ref(100*k+i+1))
		r.Infos = append(r.Infos, -1000*k-i)
	}
	return r
}

// samples are records that may be, those too that no tree has.
func samples() []Record {
	return []Record{
		{},
		{Nodes: []ref.Ref{}, Infos: []int64{}},
		{Nodes: nil, Infos: []int64{}},
		{Nodes: []ref.Ref{}, Infos: nil},
		{Keep: 1},
		{Keep: math.MaxInt64, Way: math.MinInt64, Old: math.MinInt64, New: math.MaxInt64},
		{Way: -1, Old: -1, New: -1},
		{Nodes: []ref.Ref{5}, Infos: []int64{0}},
		{Nodes: []ref.Ref{5}, Infos: []int64{0}, Keep: 1},
		{Nodes: []ref.Ref{5}, Infos: []int64{0}, Keep: 2},
		{Nodes: []ref.Ref{5}, Infos: []int64{0}, Keep: math.MaxInt64},
		{Nodes: []ref.Ref{0, 0}, Infos: []int64{0, 0}},
		{Nodes: []ref.Ref{7, 7, 7}, Infos: []int64{9, 9, 9}, Keep: 3, Way: 4, Old: 5, New: 5},
		{Nodes: []ref.Ref{math.MinInt64, math.MaxInt64}, Infos: []int64{math.MaxInt64, math.MinInt64}, Keep: 1, Way: math.MaxInt64, Old: math.MaxInt64, New: math.MinInt64},
		sample(2, 0), sample(2, 1), sample(2, 2), sample(2, 3), sample(5, 4), sample(200, 9),
	}
}

// wrongs are records that may not be.
func wrongs() []Record {
	return []Record{
		// more nodes, more infos, none of one of them
		{Nodes: []ref.Ref{5}},
		{Nodes: []ref.Ref{5}, Infos: []int64{}},
		{Infos: []int64{5}},
		{Nodes: []ref.Ref{}, Infos: []int64{5}},
		{Nodes: []ref.Ref{5, 6}, Infos: []int64{1}, Keep: 1},
		{Nodes: []ref.Ref{5}, Infos: []int64{1, 2}, Keep: 1},
		{Nodes: make([]ref.Ref, 100), Infos: make([]int64, 99), Keep: 2},
		{Nodes: make([]ref.Ref, 99), Infos: make([]int64, 100), Keep: 2},
		// as much room, yet not as many
		{Nodes: make([]ref.Ref, 1, 4), Infos: make([]int64, 2, 4)},
		{Nodes: make([]ref.Ref, 0, 4), Infos: make([]int64, 4)},
		// Keep below 0
		{Keep: -1},
		{Keep: math.MinInt64},
		{Nodes: []ref.Ref{5}, Infos: []int64{1}, Keep: -1},
		{Nodes: []ref.Ref{5}, Infos: []int64{1}, Keep: -1 << 32},
		{Nodes: []ref.Ref{5}, Infos: []int64{1}, Keep: math.MinInt64},
		// both
		{Nodes: []ref.Ref{5}, Keep: -1},
	}
}

// others are numbers that aren't records', where there are n.
func others(n int64) []int64 {
	return []int64{0, -1, -2, -n, -n - 1, math.MinInt64, math.MinInt64 + 1, n + 1, n + 2, n + 100, n + 1<<16, n + 1<<32, 1<<32 + 1, 1 << 40, math.MaxInt64 - n, math.MaxInt64 - 1, math.MaxInt64}
}

func same(a, b Record) bool {
	return slices.Equal(a.Nodes, b.Nodes) && slices.Equal(a.Infos, b.Infos) && a.Keep == b.Keep && a.Way == b.Way && a.Old == b.Old && a.New == b.New
}

// plain is a table as the chapter's words say it: what each record is, and is now.
type plain struct {
	most    int
	records []Record
	states  []State
	alls    []bool
}

func (p *plain) make(r Record) (int64, bool) {
	if len(r.Nodes) != len(r.Infos) || r.Keep < 0 || len(p.records) == p.most {
		return 0, false
	}
	p.records = append(p.records, r)
	p.states = append(p.states, 1)
	p.alls = append(p.alls, false)
	return int64(len(p.records)), true
}

func (p *plain) has(n int64) bool {
	return n >= 1 && n <= int64(len(p.records))
}

// check holds the whole table against p, and numbers that are no record's.
func (p *plain) check(t *testing.T, l *Table) {
	t.Helper()
	n := int64(len(p.records))
	if l.Len() != int(n) {
		t.Errorf("P5.1: Len is %d, not %d", l.Len(), n)
	}
	for i, r := range p.records {
		k := int64(i + 1)
		if got := l.Look(k); !same(got, r) {
			t.Errorf("P5.1: Look(%d) of %d is %v, not %v", k, n, got, r)
		}
		if got := l.State(k); got != p.states[i] {
			t.Errorf("P5.1: State(%d) of %d is %d, not %d", k, n, got, p.states[i])
		}
		if got := l.All(k); got != p.alls[i] {
			t.Errorf("P5.1: All(%d) of %d is %t", k, n, got)
		}
	}
	for _, k := range others(n) {
		checkNone(t, l, k)
	}
}

// checkNone: n is no record's number.
func checkNone(t *testing.T, l *Table, n int64) {
	t.Helper()
	if got := l.Look(n); !same(got, Record{}) {
		t.Errorf("P5.1: Look(%d) is %v, where there is no record", n, got)
	}
	if got := l.State(n); got != Aborted {
		t.Errorf("P5.1: State(%d) is %d, where there is no record", n, got)
	}
	if l.All(n) {
		t.Errorf("P5.1: All(%d) is true, where there is no record", n)
	}
}

// both makes r in the table and in p, and expects the same answer.
func both(t *testing.T, l *Table, p *plain, r Record) {
	t.Helper()
	want, may := p.make(r)
	if got, ok := l.Make(r); got != want || ok != may {
		t.Fatalf("P5.1: Make(%v) with %d of %d is %d, %t, not %d, %t", r, len(p.records), p.most, got, ok, want, may)
	}
}

// filled has all samples, in some of the states, some with All set.
func filled(t *testing.T) (*Table, *plain) {
	t.Helper()
	l, p := New(100), &plain{most: 100}
	for i, r := range samples() {
		both(t, l, p, r)
		n := int64(i + 1)
		if s := State(i % 5); s != Going {
			l.Set(n, s)
			p.states[i] = s
		}
		if i%3 == 1 {
			l.SetAll(n)
			p.alls[i] = true
		}
	}
	return l, p
}

func TestStatesAreNumbered(t *testing.T) {
	if Aborted != 0 || Going != 1 || Done != 2 || States != 3 {
		t.Errorf("P5.1: the states are %d, %d, %d, %d", Aborted, Going, Done, States)
	}
}

func TestExamples(t *testing.T) {
	l := New(10)
	if l.State(0) != Aborted {
		t.Errorf("P5.1: State(0) is %d", l.State(0))
	}
	n, ok := l.Make(sample(2, 1))
	if n != 1 || !ok || l.State(1) != Going || l.State(0) != Aborted {
		t.Errorf("P5.1: the first record is %d, %t, its state %d; that of 0 is %d", n, ok, l.State(1), l.State(0))
	}
}

func TestMakeTillThereAreAsManyAsMayBe(t *testing.T) {
	for _, c := range []struct{ asked, room int }{
		{math.MinInt64, 0}, {-65536, 0}, {-2, 0}, {-1, 0}, {0, 0}, {1, 1}, {2, 2}, {7, 7}, {1000, 1000}, {65535, 65535},
		{65536, 65536}, {65537, 65536}, {1 << 20, 65536}, {1 << 32, 65536}, {1 << 40, 65536}, {math.MaxInt64, 65536},
	} {
		l := New(c.asked)
		for i := range c.room {
			if l.Len() != i {
				t.Fatalf("P5.1: New(%d): Len is %d, not %d", c.asked, l.Len(), i)
			}
			if n, ok := l.Make(Record{Way: i}); n != int64(i+1) || !ok {
				t.Fatalf("P5.1: New(%d): Make is %d, %t, not %d", c.asked, n, ok, i+1)
			}
		}
		for range 3 {
			if n, ok := l.Make(sample(1, 1)); n != 0 || ok {
				t.Errorf("P5.1: New(%d): Make with %d is %d, %t, not 0, false", c.asked, c.room, n, ok)
			}
			if l.Len() != c.room {
				t.Errorf("P5.1: New(%d): Len is %d, not %d", c.asked, l.Len(), c.room)
			}
		}
		for i := range c.room {
			if n := int64(i + 1); l.Look(n).Way != i || l.State(n) != Going || l.All(n) {
				t.Fatalf("P5.1: New(%d): record %d is %v, %d, %t", c.asked, n, l.Look(n), l.State(n), l.All(n))
			}
		}
		for _, n := range others(int64(c.room)) {
			checkNone(t, l, n)
		}
	}
}

func TestRecordsThatAreDoneStayAndCount(t *testing.T) {
	l, p := New(3), &plain{most: 3}
	for i, s := range []State{Done, Aborted, Done} {
		both(t, l, p, sample(1, int64(i)))
		n := int64(i + 1)
		l.Set(n, s)
		p.states[i] = s
	}
	both(t, l, p, sample(1, 1))
	p.check(t, l)
}

func TestMakeOfRecordsThatMayBe(t *testing.T) {
	l, p := New(100), &plain{most: 100}
	p.check(t, l)
	for _, r := range samples() {
		both(t, l, p, r)
		p.check(t, l)
	}
	if l.Len() != len(samples()) {
		t.Errorf("P5.1: Len is %d, not %d", l.Len(), len(samples()))
	}
}

func TestMakeOfRecordsThatMayNotBe(t *testing.T) {
	for _, w := range wrongs() {
		l, p := filled(t)
		for range 2 {
			if n, ok := l.Make(w); n != 0 || ok {
				t.Errorf("P5.1: Make(%v) is %d, %t", w, n, ok)
			}
			p.check(t, l)
		}
		// The number that it would have had is the next one's.
		both(t, l, p, sample(2, 7))
		p.check(t, l)
	}
}

func TestRecordsThatMayNotBeTakeNoRoom(t *testing.T) {
	l, p := New(1), &plain{most: 1}
	for _, w := range wrongs() {
		l.Make(w)
	}
	both(t, l, p, sample(2, 7))
	both(t, l, p, sample(2, 8))
	p.check(t, l)
}

func TestSetIsTheStateOfThatRecordAlone(t *testing.T) {
	l, p := filled(t)
	for _, s := range []State{Done, Aborted, Going, Done, Going, Aborted, States, 4, 77, 255, Going, Going} {
		for i := range p.records {
			l.Set(int64(i+1), s)
			p.states[i] = s
			p.check(t, l)
		}
	}
}

func TestSetAllIsAllOfThatRecordAlone(t *testing.T) {
	l, p := filled(t)
	for i := range p.records {
		// Once more changes nothing.
		for range 2 {
			l.SetAll(int64(i + 1))
			p.alls[i] = true
			p.check(t, l)
		}
	}
}

func TestSetAndSetAllOfOthersChangeNothing(t *testing.T) {
	l, p := filled(t)
	for _, n := range others(int64(len(p.records))) {
		for _, s := range []State{Done, Aborted, Going, States, 255} {
			l.Set(n, s)
		}
		l.SetAll(n)
		p.check(t, l)
	}
	// What was set of a number ahead isn't there when its record is made.
	for k := range int64(3) {
		both(t, l, p, sample(1, k))
		p.check(t, l)
	}
}

func TestOthersOfATableWithoutRecords(t *testing.T) {
	for _, most := range []int{-3, 0, 3} {
		l, p := New(most), &plain{most: max(most, 0)}
		for _, n := range append(others(0), 1, 2, 3) {
			l.Set(n, Done)
			l.SetAll(n)
			p.check(t, l)
		}
		for k := range int64(3) {
			both(t, l, p, sample(1, k))
			p.check(t, l)
		}
	}
}

func TestTablesAreApart(t *testing.T) {
	a, p := filled(t)
	b, q := New(5), &plain{most: 5}
	both(t, b, q, sample(3, 1))
	b.Set(1, Done)
	b.SetAll(1)
	q.states[0], q.alls[0] = Done, true
	p.check(t, a)
	q.check(t, b)
}

// roomy is r with its lists in the middle of greater ones, which are answered too.
func roomy(r Record) (Record, []ref.Ref, []int64) {
	nodes := slices.Concat([]ref.Ref{41, 42}, r.Nodes, []ref.Ref{43, 44, 45})
	infos := slices.Concat([]int64{51, 52}, r.Infos, []int64{53, 54, 55})
	r.Nodes = nodes[2 : 2+len(r.Nodes)]
	r.Infos = infos[2 : 2+len(r.Infos)]
	return r, nodes, infos
}

// spoil changes both lists, and the room behind them.
func spoil(r Record) {
	nodes, infos := r.Nodes[:cap(r.Nodes)], r.Infos[:cap(r.Infos)]
	for i := range nodes {
		nodes[i] = -99
	}
	for i := range infos {
		infos[i] = -99
	}
}

func TestMakeDoesNotChangeWhatIsHandedIn(t *testing.T) {
	for _, r := range slices.Concat(samples(), wrongs()) {
		l := New(5)
		in, nodes, infos := roomy(r)
		wantNodes, wantInfos := slices.Clone(nodes), slices.Clone(infos)
		n, _ := l.Make(in)
		l.Look(n)
		spoil(l.Look(n))
		l.Set(n, Done)
		l.SetAll(n)
		l.Make(in)
		if !slices.Equal(nodes, wantNodes) || !slices.Equal(infos, wantInfos) || !same(in, r) {
			t.Errorf("R6: what was handed in is %v, %v, not %v, %v", nodes, infos, wantNodes, wantInfos)
		}
	}
}

func TestMakeDoesNotKeepWhatIsHandedIn(t *testing.T) {
	l, p := New(100), &plain{most: 100}
	for i, r := range samples() {
		in, nodes, infos := roomy(r)
		both(t, l, p, in)
		p.records[i] = r
		spoil(Record{Nodes: nodes, Infos: infos})
		p.check(t, l)
		_ = append(in.Nodes, 61)
		_ = append(in.Infos, 62)
		p.check(t, l)
	}
}

func TestRecordsOfTheSameListsAreApart(t *testing.T) {
	l, p := New(5), &plain{most: 5}
	r := sample(4, 2)
	for range 3 {
		both(t, l, p, r)
	}
	spoil(l.Look(2))
	p.check(t, l)
}

func TestLookIsNewMemory(t *testing.T) {
	l, p := filled(t)
	for i := range p.records {
		n := int64(i + 1)
		a, b := l.Look(n), l.Look(n)
		spoil(a)
		if !same(b, p.records[i]) {
			t.Errorf("R6: Look(%d) shares memory with Look of it once more", n)
		}
		// One answer's lists grow, and nobody sees it.
		a = l.Look(n)
		_ = append(a.Nodes, 71, 72)
		_ = append(a.Infos, 73, 74)
		p.check(t, l)
	}
}

func TestSameAnswersOnceMore(t *testing.T) {
	for range 3 {
		l, p := filled(t)
		for range 3 {
			p.check(t, l)
		}
	}
}

func TestNilTable(t *testing.T) {
	var l *Table
	for range 2 {
		for _, r := range slices.Concat(samples(), wrongs()) {
			if n, ok := l.Make(r); n != 0 || ok {
				t.Errorf("R7: Make of nil is %d, %t", n, ok)
			}
		}
		for _, n := range append(others(0), 1, 2) {
			l.Set(n, Done)
			l.SetAll(n)
			checkNone(t, l, n)
		}
		if l.Len() != 0 {
			t.Errorf("R7: Len of nil is %d", l.Len())
		}
	}
}

// number is one of 0 to one behind the last, or one far away.
func number(g *rand.Rand, n int) int64 {
	if g.Intn(8) == 0 {
		l := others(int64(n))
		return l[g.Intn(len(l))]
	}
	return int64(g.Intn(n + 2))
}

// some is a record that mostly may be.
func some(g *rand.Rand) Record {
	r := sample(g.Intn(5), int64(g.Intn(6)))
	switch g.Intn(10) {
	case 0:
		r.Nodes = append(r.Nodes, 8)
	case 1:
		r.Infos = append(r.Infos, 8)
	case 2:
		r.Keep = -1 - g.Intn(3)
	}
	return r
}

func TestCallsInARow(t *testing.T) {
	for seed := range int64(60) {
		g := rand.New(rand.NewSource(seed))
		most := g.Intn(40) - 2
		l, p := New(most), &plain{most: max(most, 0)}
		for range 200 {
			n := number(g, len(p.records))
			switch g.Intn(5) {
			case 0, 1:
				both(t, l, p, some(g))
			case 2:
				s := State(g.Intn(5))
				l.Set(n, s)
				if p.has(n) {
					p.states[n-1] = s
				}
			case 3:
				l.SetAll(n)
				if p.has(n) {
					p.alls[n-1] = true
				}
			case 4:
				spoil(l.Look(n))
			}
			p.check(t, l)
		}
		if t.Failed() {
			t.Fatalf("P5.1: calls in a row, seed %d", seed)
		}
	}
}
