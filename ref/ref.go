// Package ref is layer 1: references: see shared/doc/01-ref.md.
package ref

// Ref is a place, and which of those that had it: 40 bits and 23; 0 is none.
type Ref int64

const (
	placeBits = 40
	countBits = 23
	placeMask = 1<<placeBits - 1
	countMask = 1<<countBits - 1
)

// Of: of a place (from 0 on), and a count.
func Of(place int, count uint32) Ref {
	// Unsigned, since a place below -1, and one behind the greatest int, must go round from 0 on.
	low := (uint64(place) + 1) & placeMask
	high := uint64(count) & countMask
	return Ref(high<<placeBits | low)
}

// Place: the place; -1 of none.
func (r Ref) Place() int {
	return int(uint64(r)&placeMask) - 1
}

// Count: the count.
func (r Ref) Count() uint32 {
	// The sign's bit lies above the count's bits, so the mask takes it away.
	return uint32(uint64(r)>>placeBits) & countMask
}
