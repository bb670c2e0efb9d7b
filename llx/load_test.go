package llx

import (
	"math"
	"slices"
	"testing"

	"boscage/api"
	"boscage/arena"
	"boscage/inner"
	"boscage/leaf"
	"boscage/record"
	"boscage/ref"
	"boscage/thread"
	"boscage/world"
)

// alone does work in one world alone: how many touches it has.
func alone(t *testing.T, w *world.World, work func(t world.Task)) int {
	t.Helper()
	x := thread.New(func(x *thread.Thread) []int64 {
		work(world.Task{Thread: x, World: w})
		return nil
	})
	for range 5000 {
		if x.Step() {
			return x.Steps()
		}
	}
	t.Fatal("P1: no end")
	return 0
}

func TestExample(t *testing.T) {
	w, e := world.New(2, 3, 1, 9, 9)
	if e != api.OK {
		t.Fatal(e)
	}
	var s Snap
	var status Status
	root := ref.Of(0, 1)
	if n := alone(t, w, func(t world.Task) { s, status = Load(t, root) }); n != 5 || status != Seen || !sameSnap(s, Snap{Ref: root}) {
		t.Errorf("P10.1: %v, %d behind %d touches", s, status, n)
	}
	if n := alone(t, w, func(t world.Task) { s, status = Load(t, w.Entry) }); n != 6 || status != Seen || s.Node.Inner == false || !slices.Equal(s.Ways, []ref.Ref{root}) {
		t.Errorf("P10.1: %v, %d behind %d touches", s, status, n)
	}
}

func TestStatuses(t *testing.T) {
	if Seen != 0 || Busy != 1 || Gone != 2 || Statuses != 3 {
		t.Errorf("P10.1: the statuses are %d, %d, %d; %d", Seen, Busy, Gone, Statuses)
	}
}

// stand is how a node is found: what its record is, whether it is marked; what Load of it comes to is reckoned by hand.
type stand struct {
	name    string
	set     func(t *testing.T, b *both) ref.Ref
	status  Status
	touches int // if it is Seen: without the ways
	state   record.State
}

// marked is a node that is marked, whatever else.
func marked(set func(t *testing.T, b *both) ref.Ref) func(t *testing.T, b *both) ref.Ref {
	return func(t *testing.T, b *both) ref.Ref {
		r := set(t, b)
		b.do(func(w *world.World) { w.Arena.SetMark(r) })
		return r
	}
}

// withRecord puts a record of two nodes to nodes 0 and 1 of b, as far as so many touches of Record take it; then node which is asked.
func withRecord(keep, touches, which int) func(t *testing.T, b *both) ref.Ref {
	return func(t *testing.T, b *both) ref.Ref {
		n := b.make(t, record.Record{Nodes: b.nodes[:2], Infos: []int64{0, 0}, Keep: keep, Old: b.nodes[1], New: 7000})
		// Both worlds have it done by the twin's words, since it is not Load's doing.
		b.do(func(w *world.World) {
			p := &twin{w: w, begin: func(p *twin) rest { return p.record(n, func(bool) rest { return nil }) }}
			for range touches {
				p.step()
			}
		})
		return b.nodes[which]
	}
}

// withInfo: node 0 has record n.
func withInfo(n int64) func(t *testing.T, b *both) ref.Ref {
	return func(t *testing.T, b *both) ref.Ref {
		b.do(func(w *world.World) { w.Arena.SwapInfo(b.nodes[0], 0, n) })
		return b.nodes[0]
	}
}

// withState: node 0 has a record of itself, that is as told.
func withState(s record.State) func(t *testing.T, b *both) ref.Ref {
	return func(t *testing.T, b *both) ref.Ref {
		n := b.make(t, record.Record{Nodes: b.nodes[:1], Infos: []int64{0}, Keep: 1})
		b.do(func(w *world.World) { w.Records.Set(n, s) })
		return withInfo(n)(t, b)
	}
}

// withOther: node 0 is a record's, but node 1 is another one's; was all of it its own before?
func withOther(all bool) func(t *testing.T, b *both) ref.Ref {
	return func(t *testing.T, b *both) ref.Ref {
		withRecord(1, 1, 0)(t, b)
		b.do(func(w *world.World) {
			w.Arena.SwapInfo(b.nodes[1], 0, 55)
			if all {
				w.Records.SetAll(1)
			}
		})
		return b.nodes[0]
	}
}

func stands() []stand {
	return []stand{
		{"no record", withInfo(0), Seen, 5, record.Aborted},
		{"no record, marked", marked(withInfo(0)), Seen, 5, record.Aborted},
		{"a number that is none's", withInfo(9), Seen, 5, record.Aborted},
		{"a number below 0", withInfo(-1), Seen, 5, record.Aborted},
		{"aborted", withState(record.Aborted), Seen, 5, record.Aborted},
		{"aborted, marked", marked(withState(record.Aborted)), Seen, 5, record.Aborted},
		{"done", withState(record.Done), Seen, 5, record.Done},
		{"done, marked", marked(withState(record.Done)), Gone, 5, record.Done},
		{"done, both kept: the first", withRecord(2, 99, 0), Seen, 5, record.Done},
		{"done, both kept: the second", withRecord(2, 99, 1), Seen, 5, record.Done},
		{"done, one went: the first", withRecord(1, 99, 0), Seen, 5, record.Done},
		{"done, one went: that", withRecord(1, 99, 1), Gone, 5, record.Done},
		{"done, both went: the first", withRecord(0, 99, 0), Gone, 5, record.Done},
		{"done, both went: the second", withRecord(0, 99, 1), Gone, 5, record.Done},
		{"of no state", withState(record.States), Busy, 7, record.States},
		{"of no state, marked", marked(withState(record.States)), Busy, 7, record.States},
		// Mark, Info, State, Mark, State; SwapInfo and Info of the first, SwapInfo (and Info) of the second, SetAll, SetMark of those that go, SwapWay, Set; Info, State.
		{"going, both are to stay: the first", withRecord(2, 1, 0), Busy, 5 + 6 + 2, record.Done},
		{"going, both are to stay, and are its own: the first", withRecord(2, 2, 0), Busy, 5 + 7 + 2, record.Done},
		{"going, both are to stay, and are its own: the second", withRecord(2, 2, 1), Busy, 5 + 7 + 2, record.Done},
		{"going, one is to go: the first", withRecord(1, 1, 0), Busy, 5 + 7 + 2, record.Done},
		{"going, one is to go, isn't marked: that", withRecord(1, 3, 1), Busy, 5 + 8 + 2, record.Done},
		{"going, one is to go, marked: the first", withRecord(1, 4, 0), Busy, 5 + 8 + 2, record.Done},
		{"going, one is to go, marked: that", withRecord(1, 4, 1), Gone, 5 + 8, record.Done},
		{"going, one is to go, marked, the way changed: that", withRecord(1, 5, 1), Gone, 5 + 8, record.Done},
		{"going, both are to go, the first marked: that", withRecord(0, 4, 0), Gone, 5 + 9, record.Done},
		{"going, both are to go, the first marked: the second", withRecord(0, 4, 1), Busy, 5 + 9 + 2, record.Done},
		// SwapInfo and Info of both, All, Set.
		{"going, the other node is another's", withOther(false), Busy, 5 + 6 + 2, record.Aborted},
		{"going, the other node is another's, marked", marked(withOther(false)), Busy, 5 + 6 + 2, record.Aborted},
		// It has no Set then, and so is still going at the last State.
		{"going, the other node is another's by now", withOther(true), Busy, 5 + 5 + 2 + 5, record.Going},
		{"going, the other node is another's by now, marked", marked(withOther(true)), Gone, 5 + 5, record.Going},
	}
}

// TestLoadAlone: nodes of all kinds, found as all stands tell.
func TestLoadAlone(t *testing.T) {
	for _, c := range stands() {
		for first := 0; first <= 4; first++ {
			for second := 0; second <= 2; second++ {
				b := newBoth(t, 20)
				b.node(t, first)
				b.node(t, second)
				b.node(t, 1)
				if first > 0 {
					b.do(func(w *world.World) { w.Arena.SwapWay(b.nodes[0], 0, wayOf(0, 0), b.nodes[1]) })
				}
				c.hold(t, b, c.set(t, b))
			}
		}
	}
}

// hold loads a node that is so, and says what came of it.
func (c stand) hold(t *testing.T, b *both, r ref.Ref) {
	t.Helper()
	was := b.snapOf(r)
	all := dump(b.real, b.nodes)
	want, status, touches := Snap{}, c.status, c.touches
	if status == Seen {
		want = was
		touches += len(was.Ways)
	}
	out, n := b.run(t, loadJob(r))
	if out != tell(want, status) || n != touches {
		t.Errorf("P10.1: %s: %s behind %d touches, not %s behind %d", c.name, out, n, tell(want, status), touches)
	}
	if status == Seen && dump(b.real, b.nodes) != all {
		t.Errorf("P10.1: %s: what it only looks at is changed", c.name)
	}
	if got := b.real.Records.State(was.Info); got != c.state {
		t.Errorf("P10.1: %s: the record is %d then, not %d", c.name, got, c.state)
	}
	b.noFaults(t)
}

// TestLoadAgain: what was Busy alone is Seen, or Gone, the next time.
func TestLoadAgain(t *testing.T) {
	for _, c := range stands() {
		b := newBoth(t, 20)
		b.node(t, 2)
		b.node(t, 2)
		r := c.set(t, b)
		if c.state == record.Going || c.state == record.States {
			continue
		}
		b.run(t, loadJob(r))
		want, status := b.snapOf(r), Seen
		if c.state == record.Done && b.real.Arena.Mark(r) {
			want, status = Snap{}, Gone
		}
		if out, _ := b.run(t, loadJob(r)); out != tell(want, status) {
			t.Errorf("P10.1: %s, again: %s, not %s", c.name, out, tell(want, status))
		}
	}
}

// change is what somebody else does ahead of a touch of Load, of a node of two ways; what comes of it is reckoned by hand.
type change struct {
	name    string
	set     func(t *testing.T, b *both) ref.Ref
	at      int // ahead of which touch, from 1 on
	what    func(w *world.World, r ref.Ref)
	status  Status
	touches int
	ways    []ref.Ref // if it is Seen
}

func swapInfo(w *world.World, r ref.Ref) {
	n, _ := w.Records.Make(record.Record{Nodes: []ref.Ref{r}, Infos: []int64{w.Arena.Info(r)}, Keep: 1, Old: wayOf(0, 0), New: 7001})
	w.Arena.SwapInfo(r, w.Arena.Info(r), n)
}

func setMark(w *world.World, r ref.Ref) { w.Arena.SetMark(r) }

func setState(s record.State) func(w *world.World, r ref.Ref) {
	return func(w *world.World, r ref.Ref) { w.Records.Set(w.Arena.Info(r), s) }
}

func swapWay(i int) func(w *world.World, r ref.Ref) {
	return func(w *world.World, r ref.Ref) { w.Arena.SwapWay(r, i, w.Arena.Way(r, i), 7002) }
}

func changesByHand() []change {
	none, done, going := withInfo(0), withState(record.Done), withState(record.Going)
	old := []ref.Ref{wayOf(0, 0), wayOf(0, 1)}
	// Alone: 1 Mark, 2 Info, 3 State, 4 Mark, 5 and 6 the ways, 7 Info. A record of one node, helped, has 5 touches: SwapInfo, Info, SetAll, SwapWay, Set.
	return []change{
		{"a record comes", none, 1, swapInfo, Busy, 5 + 5 + 2, nil},
		{"a record comes", none, 2, swapInfo, Busy, 5 + 5 + 2, nil},
		{"a record comes", none, 3, swapInfo, Busy, 7 + 1 + 2 + 5, nil},
		{"a record comes", none, 4, swapInfo, Busy, 7 + 1 + 2 + 5, nil},
		{"a record comes", none, 5, swapInfo, Busy, 7 + 1 + 2 + 5, nil},
		{"a record comes", none, 6, swapInfo, Busy, 7 + 1 + 2 + 5, nil},
		{"a record comes", none, 7, swapInfo, Busy, 7 + 1 + 2 + 5, nil},
		{"a record comes behind a done one", done, 3, swapInfo, Busy, 7 + 1 + 2 + 5, nil},
		{"a record comes behind a done one", done, 7, swapInfo, Busy, 7 + 1 + 2 + 5, nil},
		{"a record comes behind a going one", going, 3, swapInfo, Busy, 5 + 4 + 2 + 5, nil},
		{"a record comes behind a going one", going, 11, swapInfo, Busy, 5 + 5 + 2 + 5, nil},
		{"it is marked", done, 1, setMark, Gone, 5, nil},
		{"it is marked", done, 2, setMark, Busy, 7, nil},
		{"it is marked", done, 3, setMark, Busy, 7, nil},
		{"it is marked", done, 4, setMark, Busy, 7, nil},
		{"it is marked", done, 5, setMark, Seen, 7, old},
		{"it is marked", done, 7, setMark, Seen, 7, old},
		{"its record is done", going, 3, setState(record.Done), Seen, 7, old},
		{"its record is done", going, 4, setState(record.Done), Busy, 7, nil},
		{"its record is done", going, 5, setState(record.Done), Busy, 7, nil},
		{"its record, marked, is done", marked(going), 3, setState(record.Done), Gone, 5, nil},
		{"its record, marked, is done", marked(going), 4, setState(record.Done), Gone, 5, nil},
		{"its record, marked, is done", marked(going), 5, setState(record.Done), Gone, 5, nil},
		{"its record is aborted", going, 3, setState(record.Aborted), Seen, 7, old},
		{"its record is aborted", going, 4, setState(record.Aborted), Busy, 7, nil},
		{"its record is aborted", marked(going), 5, setState(record.Aborted), Busy, 7, nil},
		{"its done record is going", done, 4, setState(record.Going), Seen, 7, old},
		{"its done record, marked, is going", marked(done), 4, setState(record.Going), Gone, 10, nil},
		{"its done record, marked, is aborted", marked(done), 5, setState(record.Aborted), Busy, 7, nil},
		{"its first way changes", none, 5, swapWay(0), Seen, 7, []ref.Ref{7002, wayOf(0, 1)}},
		{"its first way changes", none, 6, swapWay(0), Seen, 7, old},
		{"its second way changes", none, 6, swapWay(1), Seen, 7, []ref.Ref{wayOf(0, 0), 7002}},
		{"its second way changes", none, 7, swapWay(1), Seen, 7, old},
	}
}

// TestLoadWithChanges: what somebody else does ahead of one touch tells which touch that is.
func TestLoadWithChanges(t *testing.T) {
	for _, c := range changesByHand() {
		b := newBoth(t, 20)
		b.node(t, 2)
		b.node(t, 0)
		r := c.set(t, b)
		want := b.snapOf(r)
		p := b.start(loadJob(r))
		for i := 1; !p.ended(); i++ {
			if i == c.at {
				b.do(func(w *world.World) { c.what(w, r) })
			}
			p.step(t)
		}
		if want.Ways = c.ways; c.status != Seen {
			want = Snap{}
		}
		if p.out != tell(want, c.status) || p.real.Steps() != c.touches {
			t.Errorf("P10.1: %s ahead of touch %d: %s behind %d touches, not %s behind %d", c.name, c.at, p.out, p.real.Steps(), tell(want, c.status), c.touches)
		}
		b.noFaults(t)
	}
}

// others are what others may do between two touches.
func others(b *both, n int64) []func(w *world.World) {
	out := []func(w *world.World){
		func(w *world.World) {},
		func(w *world.World) { w.Records.SetAll(n) },
		func(w *world.World) { w.Records.Make(record.Record{Nodes: b.nodes[:1], Infos: []int64{n}, Keep: 1}) },
	}
	for s := range record.States {
		out = append(out, func(w *world.World) { w.Records.Set(n, s) })
	}
	for _, r := range b.nodes {
		for _, info := range []int64{0, n, n + 1, 55} {
			out = append(out, func(w *world.World) { w.Arena.SwapInfo(r, w.Arena.Info(r), info) })
		}
		for i := range 2 {
			out = append(out, func(w *world.World) { w.Arena.SwapWay(r, i, w.Arena.Way(r, i), 99) })
		}
		out = append(out, func(w *world.World) { w.Arena.SetMark(r) })
	}
	return out
}

// TestWithOthersBetween: whatever others do ahead of any two touches, all is as the chapter says, touch by touch.
func TestWithOthersBetween(t *testing.T) {
	jobs := []func(b *both) job{
		func(b *both) job { return loadJob(b.nodes[0]) },
		func(b *both) job { return loadsJob(b.nodes[1], b.nodes[0]) },
		func(b *both) job { return storeJob(b.snapsOf(b.nodes...), 1, 1, wayOf(0, 1), 7000) },
		func(b *both) job { return stillJob(b.snapsOf(b.nodes...)) },
	}
	start := func(touches int) *both {
		b := newBoth(t, 20)
		b.node(t, 2)
		b.node(t, 0)
		withRecord(1, touches, 0)(t, b)
		return b
	}
	count := len(others(start(0), 1))
	for _, j := range jobs {
		for _, touches := range []int{1, 4, 99} {
			for i := range count * count {
				for at := range 14 {
					b := start(touches)
					l := others(b, 1)
					p := b.start(j(b))
					for k := 0; !p.ended(); k++ {
						if k == at {
							b.do(l[i%count])
						}
						if k == at+1+i%3 {
							b.do(l[i/count])
						}
						p.stepUnheld()
					}
					p.hold(t)
				}
			}
		}
	}
}

// TestNodesThatAreNot: those that were freed, whose places are used again or not, and those that never were have no record, no mark and no way.
func TestNodesThatAreNot(t *testing.T) {
	for _, again := range []bool{false, true} {
		for _, r := range []ref.Ref{0, ref.Of(2, 1), ref.Of(2, 9), ref.Of(50, 1), -1, 1, math.MinInt64, math.MaxInt64} {
			b := newBoth(t, 20)
			b.do(func(w *world.World) {
				gone, _ := w.Arena.Alloc(arena.Node{Inner: true, Ways: inner.Inner{Ways: []ref.Ref{5}}})
				w.Arena.SetMark(gone)
				w.Arena.SwapInfo(gone, 0, 3)
				w.Arena.Free(gone)
			})
			if again {
				b.node(t, 2)
			}
			none := Snap{Ref: r}
			all := dump(b.real, b.nodes)
			if out, n := b.run(t, loadJob(r)); out != tell(none, Seen) || n != 5 {
				t.Errorf("P10.1: node %d: %s behind %d touches", r, out, n)
			}
			if out, n := b.run(t, stillJob([]Snap{none, {Ref: r, Info: 1}, none})); out != tell(false) || n != 2 {
				t.Errorf("P10.2: node %d: Still is %s behind %d touches", r, out, n)
			}
			if dump(b.real, b.nodes) != all {
				t.Errorf("P10.1: node %d: something changed", r)
			}
			// Make, SwapInfo, Info, All, Set.
			if out, n := b.run(t, storeJob([]Snap{none}, 0, 0, 0, 9)); out != tell(false, false) || n != 5 || b.real.Records.State(1) != record.Aborted {
				t.Errorf("P10.2: node %d: Store is %s behind %d touches", r, out, n)
			}
		}
	}
}

// TestNodesOfNoUse: an inner node may have no way, a leaf may have ways, as far as the arena goes; each way is read.
func TestNodesOfNoUse(t *testing.T) {
	for _, c := range []struct {
		node arena.Node
		size int
	}{
		{arena.Node{Inner: true}, 0},
		{arena.Node{Inner: true, Pairs: leaf.Leaf{{Key: 1}}, Ways: inner.Inner{Keys: []int64{4, 5, 6}}}, 0},
		{arena.Node{Inner: true, Ways: inner.Inner{Ways: []ref.Ref{0, 0, 9}}}, 3},
		{arena.Node{Pairs: leaf.Leaf{{Key: 1}, {Key: 1}}, Ways: inner.Inner{Keys: []int64{4}, Ways: []ref.Ref{7, 8, 9}}}, 2},
		{arena.Node{Tagged: true}, 0},
	} {
		b := newBoth(t, 20)
		r := b.put(t, c.node)
		want := b.snapOf(r)
		if out, n := b.run(t, loadJob(r)); out != tell(want, Seen) || n != 5+len(c.node.Ways.Ways) || tell(want.Node) != tell(c.node) {
			t.Errorf("P10.1: %v is %s behind %d touches", c.node, out, n)
		}
		if want.Size() != c.size {
			t.Errorf("P10.3: %v has size %d, not %d", c.node, want.Size(), c.size)
		}
	}
}

// TestGreatNodes: as many ways, or pairs, as a node may have.
func TestGreatNodes(t *testing.T) {
	b := newBoth(t, 20)
	r := b.node(t, api.MaxB)
	want := b.snapOf(r)
	if out, n := b.run(t, loadJob(r)); out != tell(want, Seen) || n != 5+api.MaxB || len(want.Ways) != api.MaxB || want.Size() != api.MaxB {
		t.Errorf("P10.1: %s behind %d touches", out, n)
	}
	var n arena.Node
	for i := range int64(api.MaxB) {
		n.Pairs = append(n.Pairs, leaf.Pair{Key: i, Value: -i})
	}
	if out, n := b.run(t, loadJob(b.put(t, n))); out != tell(b.snapOf(b.nodes[1]), Seen) || n != 5 || b.snapOf(b.nodes[1]).Size() != api.MaxB {
		t.Errorf("P10.1: %s behind %d touches", out, n)
	}
	b.noFaults(t)
}

// TestNodeAsHandedIn: Node tells the ways as they were at first, Ways as they are now.
func TestNodeAsHandedIn(t *testing.T) {
	b := newBoth(t, 20)
	r := b.node(t, 3)
	b.do(func(w *world.World) { w.Arena.SwapWay(r, 1, wayOf(0, 1), 77) })
	var s Snap
	alone(t, b.real, func(t world.Task) { s, _ = Load(t, r) })
	if !slices.Equal(s.Ways, []ref.Ref{1000, 77, 1002}) || !slices.Equal(s.Node.Ways.Ways, []ref.Ref{1000, 1001, 1002}) || !slices.Equal(s.Node.Ways.Keys, []int64{1, 2}) {
		t.Errorf("P10.1: %+v", s)
	}
}
