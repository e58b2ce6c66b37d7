package flow_test

import (
	"math"
	"slices"
	"strings"
	"testing"

	"strainer/api"
	"strainer/check"
	"strainer/flow"
	"strainer/inst"
	"strainer/list"
	"strainer/vm"
)

// Codes of the tests' instructions: x more, if the other side is X.
const (
	load, imm, cell, length = 0x20, 0x00, 0x60, 0x80
	immX, cellX, lengthX    = 0x01, 0x61, 0x81
	store, storeX           = 0x02, 0x03
	toX, toA, neg           = 0x07, 0x87, 0x84
	ja, retK, retA          = 0x05, 0x06, 0x16
	add, div, lsh, rsh      = 0x04, 0x34, 0x64, 0x74
	jeq, jgt, jge, jset     = 0x15, 0x25, 0x35, 0x45
	x                       = 8
)

var branches = []uint16{jeq, jgt, jge, jset, jeq + x, jgt + x, jge + x, jset + x}

func is(i inst.Inst, codes ...uint16) bool { return slices.Contains(codes, i.Code) }

// fill tells so many instructions that do something, and a return of A behind them.
func fill(many int) []inst.Inst {
	l := slices.Repeat([]inst.Inst{{Code: add, K: 1}}, many-1)
	return append(l, inst.Inst{Code: retA})
}

// read tells a program's instructions; its lines stand in one, with strokes between.
func read(t *testing.T, text string) []inst.Inst {
	t.Helper()
	l, line, e := list.Program(strings.ReplaceAll(text, "|", "\n"))
	if e != api.OK {
		t.Fatalf("%s: line %d, error %d", text, line, e)
	}
	return l
}

// told is what the five calls answer.
type told struct {
	reach   []bool
	pruned  []inst.Inst
	longest int
	ends    []uint32
	a       bool
	loads   []int
}

func tell(l []inst.Inst) told {
	w := told{reach: flow.Reach(l), pruned: flow.Prune(l), longest: flow.Longest(l), loads: flow.Loads(l)}
	w.ends, w.a = flow.Ends(l)
	return w
}

func same(v, w told) bool {
	return slices.Equal(v.reach, w.reach) && slices.Equal(v.pruned, w.pruned) && v.longest == w.longest && slices.Equal(v.ends, w.ends) && v.a == w.a && slices.Equal(v.loads, w.loads)
}

// marks tells what is reached by a row of signs: 1, if it is.
func marks(row string) []bool {
	var l []bool
	for _, c := range row {
		l = append(l, c == '1')
	}
	return l
}

// P7.1: the document's example.
func TestExample(t *testing.T) {
	if p, want := flow.Prune(read(t, "ja 1|neg|ret a")), read(t, "ja 0|ret a"); !slices.Equal(p, want) {
		t.Errorf("pruned: %v, not %v", p, want)
	}
}

// P7.1: of programs told by hand, all five.
func TestByHand(t *testing.T) {
	for _, c := range []struct {
		text, reach, pruned string
		longest             int
		ends                []uint32
		a                   bool
		loads               []int
	}{
		{"ret a", "1", "ret a", 1, nil, true, nil},
		{"ret #7", "1", "ret #7", 1, []uint32{7}, false, nil},
		{"ret #0", "1", "ret #0", 1, []uint32{0}, false, nil},
		{"ret #1|ret #2|ret a", "100", "ret #1", 1, []uint32{1}, false, nil},
		{"ret a|ld [4]|ret #2", "100", "ret a", 1, nil, true, nil},
		{"ld [8]|ret a", "11", "ld [8]|ret a", 2, nil, true, []int{8}},
		{"ja 0|ja 0|ret #3", "111", "ja 0|ja 0|ret #3", 3, []uint32{3}, false, nil},
		{"ja 2|ld [0]|ret #1|ld [4]|ja 1|ret #2|ret #3", "1001101", "ja 0|ld [4]|ja 0|ret #3", 4, []uint32{3}, false, []int{4}},
		{"ja 1|ja 1|ja 1|ret #1|ret #2", "10101", "ja 0|ja 0|ret #2", 3, []uint32{2}, false, nil},
		{"jeq #1 0 1|ja 4|neg|jset x 1 2|ret #8|ret #1|ret #2", "1111011", "jeq #1 0 1|ja 3|neg|jset x 0 1|ret #1|ret #2", 4, []uint32{1, 2}, false, nil},
		{"jeq #4 0 0|ret a", "11", "jeq #4 0 0|ret a", 2, nil, true, nil},
		{"jeq #4 1 1|ret #1|ret a", "101", "jeq #4 0 0|ret a", 2, nil, true, nil},
		{"jgt x 2 0|ret #1|ret #2|ret #3", "1101", "jgt x 1 0|ret #1|ret #3", 2, []uint32{1, 3}, false, nil},
		{"jset #4 0 2|ret #1|ret #2|ret #3", "1101", "jset #4 0 1|ret #1|ret #3", 2, []uint32{1, 3}, false, nil},
		{"jge #4 1 3|neg|ret #1|neg|ret #2", "10101", "jge #4 0 1|ret #1|ret #2", 2, []uint32{1, 2}, false, nil},
		{"jeq #1 0 3|ld [60]|ja 1|neg|ld [16]|ret a", "111011", "jeq #1 0 2|ld [60]|ja 0|ld [16]|ret a", 5, nil, true, []int{16, 60}},
		{"jeq #1 3 0|ld [60]|ja 1|neg|ld [16]|ret a", "111011", "jeq #1 2 0|ld [60]|ja 0|ld [16]|ret a", 5, nil, true, []int{16, 60}},
		{"jeq #1 0 1|ret #9|jeq #2 0 1|ret #5|jeq #3 0 1|ret #7|ret #5", "1111111", "jeq #1 0 1|ret #9|jeq #2 0 1|ret #5|jeq #3 0 1|ret #7|ret #5", 4, []uint32{5, 7, 9}, false, nil},
		{"ld [12]|div x|ret #3", "111", "ld [12]|div x|ret #3", 3, []uint32{3}, false, []int{12}},
		{"jeq #0 1 0|ret a|ret #4|ret #5", "1110", "jeq #0 1 0|ret a|ret #4", 2, []uint32{4}, true, nil},
		{"ja 1|ld m[3]|ret #6", "101", "ja 0|ret #6", 2, []uint32{6}, false, nil},
	} {
		want := told{marks(c.reach), read(t, c.pruned), c.longest, c.ends, c.a, c.loads}
		if got := tell(read(t, c.text)); !same(got, want) {
			t.Errorf("%s: %v, not %v", c.text, got, want)
		}
	}
}

// P7.1, R2: of a program that may not run nothing, 0, false; whatever it is that is wrong, and where no way leads to it.
func TestWrongPrograms(t *testing.T) {
	end := inst.Inst{Code: retK, K: 5}
	for _, l := range [][]inst.Inst{
		nil,
		{},
		fill(api.MaxInst + 1),
		fill(api.MaxInst * 4),
		{{Code: 0xffff}, end},
		{{Code: load + x}, end},
		{{Code: load, K: 2}, end},
		{{Code: load, K: 64}, end},
		{{Code: store, K: 16}, end},
		{{Code: div}, end},
		{{Code: lsh, K: 32}, end},
		{{Code: ja, K: 1}, end},
		{{Code: ja, K: math.MaxUint32}, end},
		{{Code: jeq, Jt: 1}, end},
		{{Code: jeq, Jf: 1}, end},
		{{Code: jeq, Jt: 255, Jf: 255}, end},
		{{Code: load}},
		{{Code: load}, end, {Code: neg}},
		{{Code: load}, end, {Code: ja}},
		{{Code: load}, {Code: cell, K: 3}, {Code: retA}},
		{{Code: load}, {Code: retA}, {Code: load, K: 3}, end},
		{{Code: load}, {Code: ja, K: 1}, {Code: div}, end},
	} {
		if got := tell(l); !same(got, told{}) {
			t.Errorf("%v: %v", l[:min(len(l), 12)], got)
		}
	}
}

// P7.1: each kind goes on to the next one, and only there, but jumps and returns, whatever its jumps and its k are.
func TestKinds(t *testing.T) {
	many := 0
	for code := range 1 << 16 {
		kind, _, ok := inst.Of(uint16(code))
		if !ok {
			continue
		}
		many++
		i := inst.Inst{Code: uint16(code), Jt: 1, Jf: 2, K: 4}
		want := "111111"
		switch kind {
		case inst.Jump:
			i.K, want = 1, "110111"
		case inst.RetK, inst.RetA:
			want = "110000"
		case inst.Equal, inst.Greater, inst.Least, inst.Common:
			want = "110111"
		}
		l := []inst.Inst{{Code: store, K: 4}, i, {Code: neg}, {Code: toX}, {Code: toA}, {Code: retA}}
		if got := flow.Reach(l); !slices.Equal(got, marks(want)) {
			t.Errorf("Reach of %v: %v, not %s", l, got, want)
		}
		var loads []int
		if kind == inst.Load {
			loads = []int{4}
		}
		if got := flow.Loads(l); !slices.Equal(got, loads) {
			t.Errorf("Loads of %v: %v, not %v", l, got, loads)
		}
		k, a := flow.Ends(l)
		if want := kind == inst.RetK; want != (len(k) > 0) || a == want {
			t.Errorf("Ends of %v: %v, %v", l, k, a)
		}
	}
	if many != 41 {
		t.Errorf("%d codes were met", many)
	}
}

// P7.1: a jump's own fields move, and nothing else: the jumps and the k that an instruction does not ask stay as they are.
func TestOtherFieldsStay(t *testing.T) {
	for _, c := range []struct{ was, now inst.Inst }{
		{inst.Inst{Code: ja, Jt: 200, Jf: 100, K: 2}, inst.Inst{Code: ja, Jt: 200, Jf: 100}},
		{inst.Inst{Code: jeq, Jt: 2, Jf: 3, K: 2}, inst.Inst{Code: jeq, Jt: 0, Jf: 1, K: 2}},
		{inst.Inst{Code: jset + x, Jt: 3, Jf: 2, K: math.MaxUint32}, inst.Inst{Code: jset + x, Jt: 1, Jf: 0, K: math.MaxUint32}},
		{inst.Inst{Code: retK, Jt: 2, Jf: 2, K: 2}, inst.Inst{Code: retK, Jt: 2, Jf: 2, K: 2}},
		{inst.Inst{Code: retA, Jt: 2, Jf: 2, K: 2}, inst.Inst{Code: retA, Jt: 2, Jf: 2, K: 2}},
	} {
		l := []inst.Inst{{Code: add, Jt: 9, Jf: 8, K: 7}, c.was, {Code: neg}, {Code: toX}, {Code: load, Jt: 2, Jf: 2, K: 4}, {Code: retA, Jt: 3, K: 1}}
		p := flow.Prune(l)
		if len(p) < 2 || p[0] != l[0] || p[1] != c.now || len(p) > 2 && !slices.Equal(p[len(p)-1:], l[5:]) {
			t.Errorf("Prune of %v: %v", l, p)
		}
	}
}

// P7.1: the farthest jumps, over nothing that is reached, and over something.
func TestFarJumps(t *testing.T) {
	l := fill(api.MaxInst)
	l[0] = inst.Inst{Code: ja, K: api.MaxInst - 2}
	if got := flow.Prune(l); !slices.Equal(got, []inst.Inst{{Code: ja}, {Code: retA}}) || flow.Longest(l) != 2 {
		t.Errorf("pruned: %v; longest %d", got, flow.Longest(l))
	}
	for _, code := range branches {
		for _, far := range []uint8{1, 127, 128, 254, 255} {
			l := fill(300)
			l[0] = inst.Inst{Code: code, Jt: far, Jf: far, K: 3}
			want := append([]inst.Inst{{Code: code, K: 3}}, l[1+int(far):]...)
			if p := flow.Prune(l); !slices.Equal(p, want) || flow.Longest(l) != len(want) {
				t.Errorf("both far, %d: pruned to %d, %v", far, len(p), p[:1])
			}
			l[0] = inst.Inst{Code: code, Jt: far, Jf: 0, K: 3}
			if p := flow.Prune(l); !slices.Equal(p, l) || flow.Longest(l) != 300 {
				t.Errorf("true far, %d: pruned to %d, %v", far, len(p), p[:1])
			}
			l[0] = inst.Inst{Code: code, Jt: 0, Jf: far, K: 3}
			if p := flow.Prune(l); !slices.Equal(p, l) || flow.Longest(l) != 300 {
				t.Errorf("false far, %d: pruned to %d, %v", far, len(p), p[:1])
			}
			l[1] = inst.Inst{Code: retA}
			want = slices.Concat([]inst.Inst{{Code: code, Jf: 1, K: 3}, {Code: retA}}, l[1+int(far):])
			if far == 1 {
				want = append([]inst.Inst{{Code: code, Jf: 1, K: 3}}, l[1:]...)
			}
			if p := flow.Prune(l); !slices.Equal(p, want) || flow.Longest(l) != 300-int(far) {
				t.Errorf("over what is not reached, %d: pruned to %d, %v; longest %d", far, len(p), p[:1], flow.Longest(l))
			}
		}
	}
}

// P7.1: ends rise without a sign, each once; of unreached ones nothing; as many as there may be.
func TestEnds(t *testing.T) {
	rows := [][2][]uint32{
		{{1 << 31, 1, math.MaxUint32, 0, 1<<31 - 1}, {0, 1, 1<<31 - 1, 1 << 31, math.MaxUint32}},
		{{0x7fff0000, 0x50000, 0x80000000, 0x50026, 0x7fc00000}, {0x50000, 0x50026, 0x7fc00000, 0x7fff0000, 0x80000000}},
		{{3, 3, 2, 3, 2, 2, 1}, {1, 2, 3}},
		{{10, 9, 100, 1000, 99}, {9, 10, 99, 100, 1000}},
	}
	var all, up []uint32
	for n := range uint32(api.MaxInst/2 - 1) {
		all, up = append(all, (2047-n)*0x200001), append(up, (n+1)*0x200001)
	}
	for _, row := range append(rows, [2][]uint32{all, up}) {
		var l []inst.Inst
		for _, k := range row[0] {
			l = append(l, inst.Inst{Code: jeq, Jf: 1, K: 77}, inst.Inst{Code: retK, K: k})
		}
		for _, last := range []inst.Inst{{Code: retK, K: row[0][0]}, {Code: retA, K: 12345}} {
			if k, a := flow.Ends(append(l, last, inst.Inst{Code: retK, K: 4711})); !slices.Equal(k, row[1]) || a != (last.Code == retA) {
				t.Errorf("ends of %v: %v, %v", row[0][:5], k, a)
			}
		}
	}
}

// P7.1: places rise, each once, and of what is reached only; no other k is a place.
func TestLoads(t *testing.T) {
	var l []inst.Inst
	var want []int
	for n := range 16 {
		l = append(l, inst.Inst{Code: load, K: uint32(60 - 4*n)}, inst.Inst{Code: load, K: uint32(4 * (7 * n % 16))})
		want = append(want, 4*n)
	}
	if got := flow.Loads(append(l, inst.Inst{Code: retA})); !slices.Equal(got, want) {
		t.Errorf("all places: %v", got)
	}
	for k := range 16 {
		one := inst.Inst{Code: load, K: uint32(4 * k)}
		l := slices.Concat([]inst.Inst{one, one, {Code: ja, K: 32}}, l, []inst.Inst{one, {Code: retK}, {Code: load, K: 8}, {Code: retK}})
		if got := flow.Loads(l); !slices.Equal(got, []int{4 * k}) {
			t.Errorf("place %d: %v", 4*k, got)
		}
	}
	if got := flow.Loads(read(t, "st m[4]|ld m[4]|ldx m[4]|ld #8|ldx #12|ld len|ldx len|add #16|jeq #20 0 0|ret #24")); len(got) != 0 {
		t.Errorf("no places: %v", got)
	}
}

// P7.1: the longest of two ways, on either side, and of what is reached only.
func TestLongest(t *testing.T) {
	for _, n := range []int{1, 2, 3, 10, 99, 200, 254, 255} {
		long, short := fill(n), []inst.Inst{{Code: retK}}
		for _, code := range branches {
			for _, l := range [][]inst.Inst{
				slices.Concat([]inst.Inst{{Code: code, Jt: 0, Jf: uint8(n)}}, long, short),
				slices.Concat([]inst.Inst{{Code: code, Jt: uint8(n), Jf: 0}}, long, short),
				slices.Concat([]inst.Inst{{Code: code, Jt: 0, Jf: 1}}, short, long),
				slices.Concat([]inst.Inst{{Code: code, Jt: 1, Jf: 0}}, short, long),
				slices.Concat([]inst.Inst{{Code: code, Jt: 0, Jf: 0}}, long, fill(300)),
				slices.Concat([]inst.Inst{{Code: ja, K: 300}}, fill(300), long),
			} {
				if got := flow.Longest(l); got != n+1 {
					t.Errorf("longest of %v (%d more): %d, not %d", l[0], n, got, n+1)
				}
			}
		}
	}
	for _, n := range []int{1, 2, 255, 256, 257, api.MaxInst - 1, api.MaxInst} {
		if got := tell(fill(n)); got.longest != n || !slices.Equal(got.pruned, fill(n)) || len(got.reach) != n || slices.Contains(got.reach, false) {
			t.Errorf("straight on, %d: %d steps, %d reached of, pruned to %d", n, got.longest, len(got.reach), len(got.pruned))
		}
	}
}

// P7.1, R1: a program of as many ways as there may be is told at once.
func TestManyWays(t *testing.T) {
	l := fill(api.MaxInst)
	for at := range l[:len(l)-2] {
		l[at] = inst.Inst{Code: branches[at%len(branches)], Jt: 1, Jf: uint8((at + 1) % 2 * 2)}
	}
	l[0], l[len(l)-2] = inst.Inst{Code: load, K: 4}, inst.Inst{Code: retK, K: 9}
	got := tell(l)
	if len(got.pruned) != len(l) || got.longest < len(l)/2 || got.longest > len(l) || !slices.Equal(got.ends, []uint32{9}) || !got.a || !slices.Equal(got.loads, []int{4}) {
		t.Errorf("pruned to %d, longest %d, %v, %v, %v", len(got.pruned), got.longest, got.ends, got.a, got.loads)
	}
	for at := range l[:len(l)-1] {
		l[at] = inst.Inst{Code: jeq, Jt: uint8(min(255, len(l)-2-at)), Jf: 0}
	}
	if got := tell(l); !slices.Equal(got.pruned, l) || got.longest != len(l) {
		t.Errorf("pruned to %d, longest %d", len(got.pruned), got.longest)
	}
}

// walk goes each way by itself, and gathers what stands on it.
func (w *told) walk(l []inst.Inst, at, steps int) {
	w.reach[at] = true
	w.longest = max(w.longest, steps)
	switch i := l[at]; {
	case is(i, retK):
		w.ends = append(w.ends, i.K)
	case is(i, retA):
		w.a = true
	case is(i, ja):
		w.walk(l, at+1+int(i.K), steps+1)
	case is(i, branches...):
		w.walk(l, at+1+int(i.Jt), steps+1)
		w.walk(l, at+1+int(i.Jf), steps+1)
	default:
		if is(i, load) {
			w.loads = append(w.loads, int(i.K))
		}
		w.walk(l, at+1, steps+1)
	}
}

// plain tells by ways, one after the other; what is left by leaving out one instruction after the other, from the last one on.
func plain(l []inst.Inst) told {
	if _, e := check.Check(l); e != api.OK {
		return told{}
	}
	w := told{reach: make([]bool, len(l)), pruned: slices.Clone(l)}
	w.walk(l, 0, 1)
	slices.Sort(w.ends)
	slices.Sort(w.loads)
	w.ends, w.loads = slices.Compact(w.ends), slices.Compact(w.loads)
	for out := len(l) - 1; out >= 0; out-- {
		if w.reach[out] {
			continue
		}
		w.pruned = slices.Delete(w.pruned, out, out+1)
		for at := range w.pruned[:out] {
			i := &w.pruned[at]
			if is(*i, ja) && at+1+int(i.K) > out {
				i.K--
			}
			if is(*i, branches...) && at+1+int(i.Jt) > out {
				i.Jt--
			}
			if is(*i, branches...) && at+1+int(i.Jf) > out {
				i.Jf--
			}
		}
	}
	return w
}

// chance tells numbers that look like chance, always the same ones.
type chance uint32

func (c *chance) below(n int) int {
	*c = *c*1664525 + 1013904223
	return int(uint32(*c)>>8) % n
}

// record tells bytes of which many are small.
func (c *chance) record() []byte {
	b := make([]byte, 64)
	for at := range b {
		if b[at] = byte(c.below(4)); at%4 != 0 && c.below(3) != 0 {
			b[at] = 0
		}
	}
	return b
}

// program tells one that mostly may run, with many jumps, and much that no way leads to.
func program(c *chance) []inst.Inst {
	l := make([]inst.Inst, 1+c.below(18))
	for at := range l {
		behind := max(1, len(l)-1-at)
		i := inst.Inst{K: uint32(c.below(4))}
		switch c.below(9) {
		case 0, 1, 2:
			i.Code, i.Jt, i.Jf = branches[c.below(8)], uint8(c.below(behind)), uint8(c.below(min(behind, 3)))
			if c.below(2) == 0 {
				i.Jt, i.Jf = i.Jf, i.Jt
			}
		case 3:
			i.Code, i.K = ja, uint32(c.below(behind))
		case 4:
			i.Code, i.K = []uint16{retK, retK, retA}[c.below(3)], []uint32{0, 1, 7, 1 << 31, math.MaxUint32}[c.below(5)]
		case 5:
			i.Code, i.K = load, uint32(4*c.below(16))
		case 6:
			i.Code = []uint16{toX, toA, neg, lengthX, imm, immX, add, add + x, rsh + x}[c.below(9)]
		case 7:
			i.Code = []uint16{store, storeX, store, cell, cellX}[c.below(5)]
		case 8:
			i.Code = []uint16{load, length, div + x, neg}[c.below(4)]
			if c.below(8) != 0 {
				i.K = 0
			}
		}
		l[at] = i
	}
	if c.below(20) != 0 {
		l[len(l)-1].Code = []uint16{retA, retK}[c.below(2)]
	}
	return l
}

// P7.1: of many programs the same as by going each way.
func TestManyPrograms(t *testing.T) {
	c, may, wrong, shorter := chance(1), 0, 0, 0
	for range 15000 {
		l := program(&c)
		got, want := tell(l), plain(l)
		if !same(got, want) {
			t.Fatalf("%s%v, not %v", list.Text(l), got, want)
		}
		switch {
		case len(want.reach) == 0:
			wrong++
		case len(want.pruned) < len(l):
			shorter++
			fallthrough
		default:
			may++
		}
	}
	if may < 5000 || wrong < 1000 || shorter < 2500 {
		t.Errorf("%d may run, %d may not, %d are pruned to fewer", may, wrong, shorter)
	}
}

// P7.2: the pruned one may run, and pruned again it is the same; all of it is reached, and what may come of it is what may come of the program.
func TestPrunedOnce(t *testing.T) {
	c := chance(2)
	for range 8000 {
		l := program(&c)
		if _, e := check.Check(l); e != api.OK {
			continue
		}
		p := flow.Prune(l)
		if at, e := check.Check(p); at != 0 || e != api.OK {
			t.Fatalf("%spruned may not run: %d, %d", list.Text(l), at, e)
		}
		got, was := tell(p), tell(l)
		was.pruned, was.reach = p, slices.Repeat([]bool{true}, len(p))
		if !same(got, was) {
			t.Fatalf("%spruned: %v, not %v", list.Text(l), got, was)
		}
	}
}

// dividesByX: a division by X, the run of which may end with 0.
func dividesByX(i inst.Inst) bool { return is(i, div+x) }

// P7.2: the pruned one tells what the program does, in as many steps; a run's steps are at most the longest way's; it loads what may be loaded, and ends with an end, if no return of A is reached and nothing is divided by X.
func TestRuns(t *testing.T) {
	c, ended, longest := chance(3), 0, 0
	for range 15000 {
		l := program(&c)
		m, e := vm.New(l)
		if e != api.OK {
			continue
		}
		w := tell(l)
		p, e := vm.New(w.pruned)
		if e != api.OK {
			t.Fatalf("%spruned may not run: %d", list.Text(l), e)
		}
		for range 4 {
			b := c.record()
			o, _ := m.Run(b)
			other, _ := p.Run(b)
			if o.Value != other.Value || o.Steps != other.Steps || !slices.Equal(o.Loads, other.Loads) {
				t.Fatalf("%sover %v: %v; pruned: %v", list.Text(l), b, o, other)
			}
			if o.Steps > w.longest || slices.ContainsFunc(o.Loads, func(k int) bool { return !slices.Contains(w.loads, k) }) {
				t.Fatalf("%sover %v: %v; longest %d, loads %v", list.Text(l), b, o, w.longest, w.loads)
			}
			if o.Steps == w.longest {
				longest++
			}
			if w.a || slices.ContainsFunc(l, dividesByX) {
				continue
			}
			if ended++; !slices.Contains(w.ends, o.Value) {
				t.Fatalf("%sover %v: %v; ends %v", list.Text(l), b, o, w.ends)
			}
		}
	}
	if ended < 3000 || longest < 3000 {
		t.Errorf("%d runs had to end with an end, %d were as long as any", ended, longest)
	}
}

// P7.2: the longest way is gone, where a record leads along it.
func TestLongestIsGone(t *testing.T) {
	l := read(t, "ld [0]|jeq #1 2 0|ret #1|ret #2|ld [4]|jgt #5 0 1|ld [8]|ret a")
	b := make([]byte, 64)
	b[0], b[4] = 1, 6
	if o, e := vm.Run(l, b); o.Steps != 6 || flow.Longest(l) != 6 || e != api.OK {
		t.Errorf("%v; longest %d", o, flow.Longest(l))
	}
}

// R4: neither the list nor the room behind it is changed, nor kept; what is handed out is new. R5: asked again, the same.
func TestHandedIn(t *testing.T) {
	whole := append(read(t, "ld [8]|jeq #1 1 3|neg|ld [0]|ja 1|ret a|ret #9|ret #2"), inst.Inst{Code: neg}, inst.Inst{Code: retA})
	was, l := slices.Clone(whole), whole[:8]
	want, got := plain(slices.Clone(l)), tell(l)
	if !same(got, want) || !slices.Equal(whole, was) {
		t.Fatalf("%v, not %v; %v, not %v", got, want, whole, was)
	}
	clear(got.reach)
	clear(got.pruned)
	clear(got.ends)
	clear(got.loads)
	_ = append(got.pruned, inst.Inst{})
	if again := tell(l); !same(again, want) || !slices.Equal(whole, was) {
		t.Errorf("asked again: %v, not %v; %v", again, want, whole)
	}
	straight := fill(5)
	flow.Prune(straight)[0].K = 99
	if !slices.Equal(straight, fill(5)) {
		t.Error("the pruned one is the list that was handed in")
	}
	for range 50 {
		if again := tell(l); !same(again, want) {
			t.Fatalf("asked again: %v, not %v", again, want)
		}
	}
}
