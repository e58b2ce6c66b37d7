// Package word is layer 1: see shared/doc/01-word.md.
package word

import (
	"iter"
	"slices"

	"strainer/api"
)

// Get reads a word.
func Get(b []byte, at, width int, big bool) (uint64, api.Errno) {
	if e := fault(b, at, width); e != api.OK {
		return 0, e
	}
	var n uint64
	for shift, place := range places(at, width, big) {
		n |= uint64(b[place]) << shift
	}
	return n, api.OK
}

// Put writes one.
func Put(b []byte, at, width int, big bool, n uint64) ([]byte, api.Errno) {
	if e := fault(b, at, width); e != api.OK {
		return nil, e
	}
	out := slices.Clone(b)
	for shift, place := range places(at, width, big) {
		out[place] = byte(n >> shift)
	}
	return out, api.OK
}

// Halves tells a number's halves.
func Halves(n uint64) (low, high uint32) {
	return uint32(n), uint32(n >> 32)
}

// Join puts halves together.
func Join(low, high uint32) uint64 {
	return uint64(high)<<32 | uint64(low)
}

// fault tells what is wrong with a word's width or place.
func fault(b []byte, at, width int) api.Errno {
	switch width {
	case 1, 2, 4, 8:
	default:
		return api.ErrArg
	}
	// The width is taken off the length: added to a place near the greatest int it would go round.
	if at < 0 || at > len(b)-width {
		return api.ErrShort
	}
	return api.OK
}

// places goes through a word's bytes, the lowest one first: by how many bits it is shifted, and where it stands.
func places(at, width int, big bool) iter.Seq2[int, int] {
	return func(yield func(shift, place int) bool) {
		for i := range width {
			place := at + i
			if big {
				place = at + width - 1 - i
			}
			if !yield(8*i, place) {
				return
			}
		}
	}
}
