package word_test

import (
	"bytes"
	"math"
	"math/bits"
	"testing"

	"strainer/api"
	"strainer/word"
)

var widths = []int{1, 2, 4, 8}

// numbers have bytes that all differ, or are all alike, or stand at an edge.
var numbers = []uint64{0, 1, 0x80, 0xff, 0x100, 0x8000, 0x0102030405060708, 0xf1e2d3c4b5a69788, 1 << 31, 1 << 32, 1 << 63, math.MaxUint64}

func row(n int) []byte {
	b := make([]byte, n)
	for i := range b {
		b[i] = byte(0x11 + 7*i)
	}
	return b
}

func lowest(n uint64, width int) uint64 {
	return n << (64 - 8*width) >> (64 - 8*width)
}

// P1.1: a word of each width, both ways round, at the first place, in the midst, and at the last one.
func TestGet(t *testing.T) {
	b := []byte{0x01, 0x02, 0x03, 0x04, 0xf5, 0x06, 0x07, 0x08, 0x09}
	for _, c := range []struct {
		at, width int
		big       bool
		want      uint64
	}{
		{0, 1, false, 0x01}, {0, 1, true, 0x01}, {4, 1, false, 0xf5}, {8, 1, false, 0x09}, {8, 1, true, 0x09},
		{1, 2, false, 0x0302}, {1, 2, true, 0x0203}, {0, 2, false, 0x0201}, {7, 2, false, 0x0908}, {7, 2, true, 0x0809},
		{0, 4, false, 0x04030201}, {0, 4, true, 0x01020304}, {1, 4, false, 0xf5040302}, {5, 4, false, 0x09080706}, {5, 4, true, 0x06070809},
		{0, 8, false, 0x080706f504030201}, {0, 8, true, 0x01020304f5060708}, {1, 8, false, 0x09080706f5040302}, {1, 8, true, 0x020304f506070809},
	} {
		if n, e := word.Get(b, c.at, c.width, c.big); n != c.want || e != api.OK {
			t.Errorf("Get at %d of width %d, big %t: %#x, %d; not %#x", c.at, c.width, c.big, n, e, c.want)
		}
	}
}

// P1.1: a number's lowest bytes, of each width, both ways round.
func TestPut(t *testing.T) {
	for _, c := range []struct {
		at, width int
		big       bool
		want      []byte
	}{
		{0, 1, false, []byte{0x08, 0, 0, 0, 0, 0, 0, 0, 0}}, {8, 1, true, []byte{0, 0, 0, 0, 0, 0, 0, 0, 0x08}},
		{1, 2, false, []byte{0, 0x08, 0x07, 0, 0, 0, 0, 0, 0}}, {7, 2, true, []byte{0, 0, 0, 0, 0, 0, 0, 0x07, 0x08}},
		{5, 4, false, []byte{0, 0, 0, 0, 0, 0x08, 0x07, 0x06, 0x05}}, {0, 4, true, []byte{0x05, 0x06, 0x07, 0x08, 0, 0, 0, 0, 0}},
		{1, 8, false, []byte{0, 0x08, 0x07, 0x06, 0x05, 0x04, 0x03, 0x02, 0x01}}, {0, 8, true, []byte{0x01, 0x02, 0x03, 0x04, 0x05, 0x06, 0x07, 0x08, 0}},
	} {
		if b, e := word.Put(make([]byte, 9), c.at, c.width, c.big, 0x0102030405060708); !bytes.Equal(b, c.want) || e != api.OK {
			t.Errorf("Put at %d of width %d, big %t: %x, %d; not %x", c.at, c.width, c.big, b, e, c.want)
		}
	}
}

// wrong holds both calls to an error, and to zero values beside it (R2).
func wrong(t *testing.T, b []byte, at, width int, want api.Errno) {
	t.Helper()
	for _, big := range []bool{false, true} {
		if n, e := word.Get(b, at, width, big); n != 0 || e != want {
			t.Errorf("Get of %d bytes at %d of width %d, big %t: %#x, %d; not error %d", len(b), at, width, big, n, e, want)
		}
		if x, e := word.Put(b, at, width, big, 0x0102030405060708); len(x) != 0 || e != want {
			t.Errorf("Put in %d bytes at %d of width %d, big %t: %x, %d; not error %d", len(b), at, width, big, x, e, want)
		}
	}
}

// P1.1: a width that is none is ErrArg, also where the place is wrong too.
func TestOtherWidths(t *testing.T) {
	other := []int{math.MinInt, math.MinInt + 1, math.MinInt32, 256 + 1, 1 << 32, 1<<32 + 4, math.MaxInt - 1, math.MaxInt}
	for width := -70; width <= 70; width++ {
		if width != 1 && width != 2 && width != 4 && width != 8 {
			other = append(other, width)
		}
	}
	for _, width := range other {
		for _, at := range []int{0, 1, 31, 32, 33, -1, math.MinInt, math.MaxInt} {
			wrong(t, row(32), at, width, api.ErrArg)
		}
		wrong(t, nil, 0, width, api.ErrArg)
	}
}

// P1.1: a word may end with the last byte, not behind it; it may not begin ahead of the first one.
func TestPlaces(t *testing.T) {
	for n := range 20 {
		for _, width := range widths {
			for at := 0; at+width <= n; at++ {
				if _, e := word.Get(row(n), at, width, false); e != api.OK {
					t.Errorf("Get of %d bytes at %d of width %d: %d", n, at, width, e)
				}
				if x, e := word.Put(row(n), at, width, true, 0); e != api.OK || len(x) != n {
					t.Errorf("Put in %d bytes at %d of width %d: %x, %d", n, at, width, x, e)
				}
			}
			for at := max(0, n-width+1); at <= n+9; at++ {
				wrong(t, row(n), at, width, api.ErrShort)
			}
			for i := range 9 {
				wrong(t, row(n), -1-i, width, api.ErrShort)
				wrong(t, row(n), math.MinInt+i, width, api.ErrShort)
				wrong(t, row(n), math.MaxInt-i, width, api.ErrShort)
			}
			wrong(t, row(n), 1<<62, width, api.ErrShort)
			wrong(t, row(n), 1<<32, width, api.ErrShort)
		}
	}
	wrong(t, nil, 0, 1, api.ErrShort)
}

// P1.1: the spare room behind a list's end is none of its bytes.
func TestSpareRoomIsNoPlace(t *testing.T) {
	wrong(t, row(32)[:7], 0, 8, api.ErrShort)
	wrong(t, row(32)[:7], 7, 1, api.ErrShort)
}

// P1.2.
func TestHalvesJoin(t *testing.T) {
	for _, c := range []struct {
		n         uint64
		low, high uint32
	}{
		{0, 0, 0}, {1, 1, 0}, {math.MaxUint32, math.MaxUint32, 0}, {1 << 32, 0, 1}, {1<<32 + 2, 2, 1}, {1 << 63, 0, 1 << 31},
		{1 << 31, 1 << 31, 0}, {0x0102030405060708, 0x05060708, 0x01020304}, {math.MaxUint64, math.MaxUint32, math.MaxUint32},
	} {
		if low, high := word.Halves(c.n); low != c.low || high != c.high {
			t.Errorf("Halves of %#x: %#x, %#x", c.n, low, high)
		}
		if n := word.Join(c.low, c.high); n != c.n {
			t.Errorf("Join of %#x and %#x: %#x", c.low, c.high, n)
		}
	}
}

// everywhere goes through words of all widths at all places of some bytes, both ways round.
func everywhere(do func(b []byte, at, width int, big bool)) {
	for n := range 18 {
		for _, width := range widths {
			for at := 0; at+width <= n; at++ {
				do(row(n), at, width, false)
				do(row(n), at, width, true)
			}
		}
	}
}

// P1.3: what is put is got, and nothing else is changed; what was got, put again, changes nothing.
func TestPutIsGot(t *testing.T) {
	everywhere(func(b []byte, at, width int, big bool) {
		for _, n := range numbers {
			x, e := word.Put(b, at, width, big, n)
			if e != api.OK || len(x) != len(b) || !bytes.Equal(x[:at], b[:at]) || !bytes.Equal(x[at+width:], b[at+width:]) {
				t.Fatalf("Put in %x at %d of width %d, big %t: %x, %d", b, at, width, big, x, e)
			}
			if got, e := word.Get(x, at, width, big); got != lowest(n, width) || e != api.OK {
				t.Fatalf("put %#x of width %d, big %t; got %#x, %d", n, width, big, got, e)
			}
		}
		n, _ := word.Get(b, at, width, big)
		if x, e := word.Put(b, at, width, big, n); !bytes.Equal(x, b) || e != api.OK {
			t.Fatalf("got %#x of %x at %d of width %d, big %t; put %x, %d", n, b, at, width, big, x, e)
		}
	})
}

// P1.3: the one way round is the other one, turned.
func TestWaysRound(t *testing.T) {
	everywhere(func(b []byte, at, width int, big bool) {
		n, _ := word.Get(b, at, width, big)
		turned, _ := word.Get(b, at, width, !big)
		if turned != bits.ReverseBytes64(n)>>(64-8*width) {
			t.Fatalf("Get of %x at %d of width %d: %#x and %#x", b, at, width, n, turned)
		}
		for _, n := range numbers {
			x, _ := word.Put(b, at, width, big, n)
			y, _ := word.Put(b, at, width, !big, bits.ReverseBytes64(lowest(n, width))>>(64-8*width))
			if !bytes.Equal(x, y) {
				t.Fatalf("Put of %#x in %x at %d of width %d: %x and %x", n, b, at, width, x, y)
			}
		}
	})
}

// P1.2, P1.3: the halves are the words of width 4 that a word of width 8 is made of.
func TestHalvesAreWords(t *testing.T) {
	for _, n := range numbers {
		b, _ := word.Put(make([]byte, 8), 0, 8, false, n)
		low, _ := word.Get(b, 0, 4, false)
		high, _ := word.Get(b, 4, 4, false)
		if l, h := word.Halves(n); uint64(l) != low || uint64(h) != high || word.Join(l, h) != n {
			t.Errorf("Halves of %#x: %#x, %#x; words %#x, %#x", n, l, h, low, high)
		}
	}
}

// R4: neither the bytes that are handed in nor the room behind them are changed, and what is handed out is new.
func TestHandedIn(t *testing.T) {
	whole := row(24)
	b := whole[4:16]
	for _, big := range []bool{false, true} {
		for _, width := range widths {
			word.Get(b, 3, width, big)
			x, _ := word.Put(b, 12-width, width, big, math.MaxUint64)
			for i := range x {
				x[i] = 0xee
			}
			x = append(x, 0xee)
			if !bytes.Equal(whole, row(24)) {
				t.Fatalf("width %d, big %t: what was handed in is %x", width, big, whole)
			}
		}
	}
	x, _ := word.Put(b, 0, 4, false, 1)
	whole[10] = 0
	if x[6] != row(24)[10] {
		t.Error("what was handed in is kept")
	}
}
