// Package swap is what the layers that change the tree have in common: new nodes are made, and come instead of others, or are freed.
package swap

import (
	"boscage/arena"
	"boscage/llx"
	"boscage/ref"
	"boscage/world"
)

// Halves makes two nodes of one node's entries, both whether there is room or not, then, if there was room, the one that is to lead to them: those made, in order; the last one is 0, if there was no room.
func Halves(t world.Task, n arena.Node, above func(a ref.Ref, key int64, b ref.Ref) arena.Node) []ref.Ref {
	first, rest, key := halves(n)
	a := t.Make(first)
	b := t.Make(rest)
	if a == 0 || b == 0 {
		return []ref.Ref{a, b, 0}
	}
	return []ref.Ref{a, b, t.Make(above(a, key, b))}
}

// In: the first node's way goes from the second node to the last of those made; all nodes but the first go. If it can't be, nobody else saw those made, so they are freed at once. Whether it was done; whether there was no room.
func In(t world.Task, l []llx.Snap, way int, made []ref.Ref) (done, none bool) {
	now := made[len(made)-1]
	if now == 0 {
		none = true
	} else {
		done, none = llx.Store(t, l, 1, way, l[1].Ref, now)
	}
	if !done {
		t.Drop(made...)
		return false, none
	}
	for _, s := range l[1:] {
		t.Leave(s.Ref)
	}
	return true, false
}

// halves: a node's entries in two nodes like it, and the key between.
func halves(n arena.Node) (first, rest arena.Node, key int64) {
	first, rest = n, n
	if n.Inner {
		first.Ways, rest.Ways, key = n.Ways.Halves()
	} else {
		first.Pairs, rest.Pairs, key = n.Pairs.Halves()
	}
	return first, rest, key
}
