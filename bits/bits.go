// Package bits is layer 1: see shared/doc/01-bits.md.
package bits

// wordBits is how many bits a word has.
const wordBits = 32

// Field returns the bits of w from bit at on, many of them, as a number.
// Bits that w does not have read as 0.
func Field(w uint32, at, many int) uint32 {
	return shift(w, -at) & low(many)
}

// Put returns w with many bits from bit at on replaced by the lowest bits of v.
// Bits that w does not have are not put anywhere.
func Put(w uint32, at, many int, v uint32) uint32 {
	return Partial(w, shift(v, at), shift(low(many), at))
}

// Sign returns the lowest many bits of v as a signed number: their highest bit
// is copied to all bits above. It returns v if many is not in the range 1 to 31.
func Sign(v uint32, many int) uint32 {
	if many < 1 || many >= wordBits {
		return v
	}
	if Field(v, many-1, 1) == 0 {
		return v & low(many)
	}
	return v | ^low(many)
}

// Partial returns the bits of to where pick has a 1, and those of from elsewhere.
func Partial(from, to, pick uint32) uint32 {
	return from&^pick | to&pick
}

// Turn returns w rotated by so many bits to the left; a negative by rotates to the right.
func Turn(w uint32, by int) uint32 {
	// Masking, unlike %, answers 0 to 31 for a negative by, too.
	left := by & (wordBits - 1)
	return w<<left | w>>(wordBits-left)
}

// low returns the word whose lowest many bits are set.
func low(many int) uint32 {
	if many < 1 {
		return 0
	}
	if many >= wordBits {
		return ^uint32(0)
	}
	return 1<<many - 1
}

// shift moves the bits of w up by so many places, or down if by is negative.
// Bits that leave the word are lost.
func shift(w uint32, by int) uint32 {
	if by < 0 {
		// The lowest int has no opposite, but as a uint it is its own distance from 0.
		return w >> uint(-by)
	}
	return w << uint(by)
}
