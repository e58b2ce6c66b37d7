package data_test

import (
	"bytes"
	"math"
	"slices"
	"testing"

	"strainer/api"
	"strainer/data"
	"strainer/word"
)

var waysRound = []bool{false, true}

// full has another byte at each place.
var full = data.Record{
	Number: 0x03020100, Arch: 0x07060504, Pointer: 0x0f0e0d0c0b0a0908,
	Args: [6]uint64{0x1716151413121110, 0x1f1e1d1c1b1a1918, 0x2726252423222120, 0x2f2e2d2c2b2a2928, 0x3736353433323130, 0x3f3e3d3c3b3a3938},
}

// fields tells a record's fields by their places: where each one is, how wide it is, and how it is put.
func fields() []field {
	l := []field{
		{0, 4, func(r *data.Record, n uint64) { r.Number = uint32(n) }},
		{4, 4, func(r *data.Record, n uint64) { r.Arch = uint32(n) }},
		{8, 8, func(r *data.Record, n uint64) { r.Pointer = n }},
	}
	for arg := range 6 {
		l = append(l, field{16 + 8*arg, 8, func(r *data.Record, n uint64) { r.Args[arg] = n }})
	}
	return l
}

type field struct {
	at, width int
	put       func(*data.Record, uint64)
}

// mixed tells bytes that differ from their neighbours, other ones for another seed.
func mixed(n int, seed uint32) []byte {
	b := make([]byte, n)
	x := seed
	for i := range b {
		x = x*1664525 + 1013904223
		b[i] = byte(x >> 24)
	}
	return b
}

// reads holds Read to an answer.
func reads(t *testing.T, b []byte, big bool, want data.Record, e api.Errno) {
	t.Helper()
	if r, got := data.Read(b, big); r != want || got != e {
		t.Errorf("Read of %x, big %t: %#x, %d; not %#x, %d", b, big, r, got, want, e)
	}
}

// P5.1: all bytes of a record, the lowest first: they count on from 0; and the other way round.
func TestBytes(t *testing.T) {
	var want [64]byte
	for i := range want {
		want[i] = byte(i)
	}
	if b := data.Write(full, false); b != want {
		t.Errorf("Write: %x", b)
	}
	reads(t, want[:], false, full, api.OK)
	turned := want
	for _, f := range fields() {
		slices.Reverse(turned[f.at : f.at+f.width])
	}
	if b := data.Write(full, true); b != turned {
		t.Errorf("Write, big: %x", b)
	}
	reads(t, turned[:], true, full, api.OK)
	if b := data.Write(data.Record{}, true); b != [64]byte{} {
		t.Errorf("Write of noughts: %x", b)
	}
	reads(t, make([]byte, 64), false, data.Record{}, api.OK)
}

// P5.1: each field alone, of each of its bits and of its greatest number, both ways round: these bytes, and no others.
func TestFields(t *testing.T) {
	for _, f := range fields() {
		numbers := []uint64{0, 1, 0x0102030405060708, 0xf1e2d3c4b5a69788, math.MaxUint32, math.MaxUint64}
		for bit := range 8 * f.width {
			numbers = append(numbers, 1<<bit, ^uint64(1<<bit))
		}
		for _, n := range numbers {
			for _, big := range waysRound {
				var r data.Record
				f.put(&r, n)
				var want [64]byte
				for i := range f.width {
					place := f.at + i
					if big {
						place = f.at + f.width - 1 - i
					}
					want[place] = byte(n >> (8 * i))
				}
				if b := data.Write(r, big); b != want {
					t.Fatalf("Write of %#x, big %t: %x, not %x", r, big, b, want)
				}
				reads(t, want[:], big, r, api.OK)
			}
		}
	}
}

// P5.1, R2: of each other number of bytes an error, and no record beside it.
func TestLengths(t *testing.T) {
	lengths := []int{1 << 10, 1 << 16, 1<<16 + 64, 1 << 20}
	for n := range 200 {
		lengths = append(lengths, n)
	}
	for _, n := range lengths {
		for _, big := range waysRound {
			switch b := bytes.Repeat([]byte{0xee}, n); {
			case n < 64:
				reads(t, b, big, data.Record{}, api.ErrShort)
			case n > 64:
				reads(t, b, big, data.Record{}, api.ErrLong)
			default:
				if _, e := data.Read(b, big); e != api.OK {
					t.Errorf("Read of 64 bytes, big %t: %d", big, e)
				}
			}
		}
	}
	reads(t, nil, false, data.Record{}, api.ErrShort)
	whole := mixed(65, 1)
	reads(t, whole[:63], false, data.Record{}, api.ErrShort) // the room behind a list's end is none of it
	reads(t, whole, true, data.Record{}, api.ErrLong)
}

// P5.1: where the words of arguments stand; of no argument an error, and 0 beside it.
func TestHalves(t *testing.T) {
	for _, c := range []struct {
		arg, low, high int
	}{{0, 16, 20}, {1, 24, 28}, {2, 32, 36}, {3, 40, 44}, {4, 48, 52}, {5, 56, 60}} {
		halves(t, c.arg, false, c.low, c.high, api.OK)
		halves(t, c.arg, true, c.high, c.low, api.OK)
	}
	none := []int{-1, -2, -6, -7, 6, 7, 8, 16, 63, 64, 256, 1 << 16, 1 << 31, 1 << 32, 1<<32 + 1, 1 << 61, 1<<61 + 1, -1 << 61, math.MinInt, math.MinInt + 1, math.MaxInt - 1, math.MaxInt}
	for _, arg := range none {
		for _, big := range waysRound {
			halves(t, arg, big, 0, 0, api.ErrRange)
		}
	}
}

// halves holds Low and High to answers.
func halves(t *testing.T, arg int, big bool, low, high int, e api.Errno) {
	t.Helper()
	if at, got := data.Low(arg, big); at != low || got != e {
		t.Errorf("Low of %d, big %t: %d, %d; not %d, %d", arg, big, at, got, low, e)
	}
	if at, got := data.High(arg, big); at != high || got != e {
		t.Errorf("High of %d, big %t: %d, %d; not %d, %d", arg, big, at, got, high, e)
	}
}

// P5.2: what is read is written as it was, and what is written is read as it was.
func TestThereAndBack(t *testing.T) {
	for seed := range uint32(500) {
		b := mixed(64, seed)
		for _, big := range waysRound {
			r, e := data.Read(b, big)
			if x := data.Write(r, big); e != api.OK || !bytes.Equal(x[:], b) {
				t.Fatalf("Read of %x, big %t: %#x, %d; written: %x", b, big, r, e, x)
			}
			other := data.Write(r, !big)
			reads(t, other[:], !big, r, api.OK)
		}
	}
	most := data.Record{Number: math.MaxUint32, Arch: math.MaxUint32, Pointer: math.MaxUint64}
	for arg := range most.Args {
		most.Args[arg] = math.MaxUint64
	}
	for _, big := range waysRound {
		b := data.Write(most, big)
		if !bytes.Equal(b[:], bytes.Repeat([]byte{0xff}, 64)) {
			t.Errorf("Write of the greatest numbers, big %t: %x", big, b)
		}
		reads(t, b[:], big, most, api.OK)
	}
}

// P5.2: at the places that Low and High tell stand the halves of the argument.
func TestHalvesStandThere(t *testing.T) {
	for seed := range uint32(50) {
		for _, big := range waysRound {
			r, _ := data.Read(mixed(64, seed), false)
			b := data.Write(r, big)
			for arg, n := range r.Args {
				at, _ := data.Low(arg, big)
				low, _ := word.Get(b[:], at, 4, big)
				at, _ = data.High(arg, big)
				high, _ := word.Get(b[:], at, 4, big)
				if l, h := word.Halves(n); low != uint64(l) || high != uint64(h) {
					t.Fatalf("argument %d of %#x, big %t: halves %#x, %#x", arg, n, big, low, high)
				}
			}
		}
	}
}

// R4: the bytes that are handed in, and the room behind them, are neither changed nor kept. R5: asked again, the same.
func TestHandedIn(t *testing.T) {
	whole := mixed(100, 7)
	b := whole[10:74]
	for _, big := range waysRound {
		r, _ := data.Read(b, big)
		x := data.Write(r, big)
		clear(x[:])
		if again := data.Write(r, big); !bytes.Equal(again[:], mixed(100, 7)[10:74]) {
			t.Errorf("Write, asked again, big %t: %x", big, again)
		}
	}
	if !bytes.Equal(whole, mixed(100, 7)) {
		t.Errorf("what was handed in is %x", whole)
	}
	r, _ := data.Read(b, false)
	was := r
	clear(whole)
	if r != was {
		t.Error("what was handed in is kept")
	}
}
