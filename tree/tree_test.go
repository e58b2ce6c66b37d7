package tree_test

import (
	"fmt"
	"math"
	"slices"
	"testing"

	"strainer/api"
	"strainer/tree"
)

const greatest = math.MaxUint32

// brief is a list's beginning, to be told with a fault.
func brief(l []uint32) string { return fmt.Sprintf("%d numbers %v", len(l), l[:min(len(l), 20)]) }

// leaf tells a leaf.
func leaf(number uint32, place int) tree.Node {
	return tree.Node{Leaf: true, Number: number, Place: place}
}

// asks tells a node that asks.
func asks(number uint32, low, high int) tree.Node {
	return tree.Node{Number: number, Low: low, High: high}
}

// built tells the tree of numbers that have one.
func built(t *testing.T, l []uint32) []tree.Node {
	t.Helper()
	x, e := tree.Build(l)
	if e != api.OK {
		t.Fatalf("Build of %s: %d", brief(l), e)
	}
	return x
}

// fails holds Build to an error, with no nodes beside it (R2).
func fails(t *testing.T, l []uint32, want api.Errno) {
	t.Helper()
	if x, e := tree.Build(l); e != want || len(x) != 0 {
		t.Errorf("Build of %s: %d nodes, %d; not %d", brief(l), len(x), e, want)
	}
}

// every tells n numbers, from one on, each so far above the last one.
func every(first, step uint32, n int) []uint32 {
	var l []uint32
	for at := range n {
		l = append(l, first+step*uint32(at))
	}
	return l
}

// least tells the least k with 2^k not below n.
func least(n int) int {
	k := 0
	for 1<<k < n {
		k++
	}
	return k
}

// walk goes through the ways from a tree's root; it tells the leaves from the lowest on, how many nodes were met, and the most that a way asks.
func walk(t *testing.T, x []tree.Node) (leaves []tree.Node, met, deep int) {
	t.Helper()
	var down func(at, asked int)
	down = func(at, asked int) {
		met, deep = met+1, max(deep, asked)
		n := x[at]
		if n.Leaf {
			if n.Low != 0 || n.High != 0 {
				t.Errorf("a leaf with more than its number and its place: %+v", n)
			}
			leaves = append(leaves, n)
			return
		}
		if n.Place != 0 {
			t.Errorf("a node that asks has a place: %+v", n)
		}
		if n.Low < 0 || n.Low >= at || n.High < 0 || n.High >= at {
			t.Fatalf("%d leads on to what is not ahead of it: %+v", at, n)
		}
		down(n.Low, asked+1)
		down(n.High, asked+1)
	}
	down(len(x)-1, 0)
	return leaves, met, deep
}

// isTree holds nodes to be a tree of some numbers.
func isTree(t *testing.T, x []tree.Node, l []uint32) {
	t.Helper()
	if len(x) != 2*len(l)-1 {
		t.Fatalf("%s: %d nodes", brief(l), len(x))
	}
	leaves, met, deep := walk(t, x)
	if met != len(x) {
		t.Errorf("%s: %d nodes, of which ways meet %d", brief(l), len(x), met)
	}
	for at, n := range l {
		if at >= len(leaves) || leaves[at] != leaf(n, at) {
			t.Fatalf("%s: not the leaf of %d at %d", brief(l), n, at)
		}
	}
	if deep > least(len(l)) {
		t.Errorf("%s: a way asks %d times", brief(l), deep)
	}
	if d := tree.Depth(x); d != deep {
		t.Errorf("%s: Depth: %d, not %d", brief(l), d, deep)
	}
}

// finds holds Find to the places of numbers, and to -1 of those beside them.
func finds(t *testing.T, x []tree.Node, l []uint32) {
	t.Helper()
	find := func(n uint32) {
		want, some := slices.BinarySearch(l, n)
		if !some {
			want = -1
		}
		if at := tree.Find(x, n); at != want {
			t.Errorf("%s: Find of %d: %d, not %d", brief(l), n, at, want)
		}
	}
	for _, n := range l {
		find(n - 1)
		find(n)
		find(n + 1)
		find(n ^ 1<<31)
	}
	for _, n := range []uint32{0, 1, 1 << 16, 1<<31 - 1, 1 << 31, greatest - 1, greatest} {
		find(n)
	}
}

// P19.1: the document's example.
func TestExample(t *testing.T) {
	l := []uint32{3, 7, 9}
	x := built(t, l)
	isTree(t, x, l)
	if tree.Find(x, 7) != 1 || tree.Find(x, 8) != -1 || tree.Depth(x) != 2 {
		t.Errorf("%+v: %d, %d, %d", x, tree.Find(x, 7), tree.Find(x, 8), tree.Depth(x))
	}
}

// P19.1, R3: a tree of none is one leaf, of the place -1.
func TestNone(t *testing.T) {
	for _, l := range [][]uint32{nil, {}} {
		x := built(t, l)
		if !slices.Equal(x, []tree.Node{leaf(0, -1)}) || tree.Depth(x) != 0 {
			t.Errorf("%+v, %d deep", x, tree.Depth(x))
		}
		finds(t, x, l)
	}
}

// P19.1: a tree of one is one leaf, whatever the number is.
func TestOne(t *testing.T) {
	for _, n := range []uint32{0, 1, 1 << 30, 1<<31 - 1, 1 << 31, greatest - 1, greatest} {
		l := []uint32{n}
		x := built(t, l)
		if !slices.Equal(x, []tree.Node{leaf(n, 0)}) || tree.Depth(x) != 0 {
			t.Errorf("%+v, %d deep", x, tree.Depth(x))
		}
		finds(t, x, l)
	}
}

// P19.1, P19.2: trees of all sizes: close numbers, and ones far apart, from the least on and up to the greatest (R6).
func TestSizes(t *testing.T) {
	sizes := []int{254, 255, 256, 257, 400, 511, 512, 513, 1023, 1024, 1025, 2047, 2048, 2049, 3000, 4095, api.MaxInst}
	for n := range 140 {
		sizes = append(sizes, n+1)
	}
	for _, n := range sizes {
		far := uint32(greatest / n)
		for _, l := range [][]uint32{every(0, 1, n), every(0, far, n), every(greatest-uint32(n-1), 1, n), every(greatest-far*uint32(n-1), far, n), every(1<<31-uint32(n), 2, n), every(0x40000000, 3, n)} {
			x := built(t, l)
			isTree(t, x, l)
			finds(t, x, l)
		}
	}
}

// P19.1, P19.2: of all lists of few small numbers, and of as many great ones, what is found is there, and the other way round.
func TestAllSmall(t *testing.T) {
	for _, first := range []uint32{0, 1<<31 - 5, greatest - 9} {
		for set := range 1 << 10 {
			var l []uint32
			for n := range uint32(10) {
				if set>>n&1 == 1 {
					l = append(l, first+n)
				}
			}
			x := built(t, l)
			if len(l) > 0 {
				isTree(t, x, l)
			}
			for n := range uint32(10) {
				at := tree.Find(x, first+n)
				if there := set>>n&1 == 1; there != (at >= 0) || there && (at >= len(l) || l[at] != first+n) || !there && at != -1 {
					t.Fatalf("%v: Find of %d: %d", l, first+n, at)
				}
			}
		}
	}
}

// P19.1, P19.2: numbers with gaps of all sizes.
func TestGaps(t *testing.T) {
	c := uint64(1)
	for range 300 {
		var l []uint32
		for at := uint64(0); len(l) < 300; {
			c = c*6364136223846793005 + 1442695040888963407
			at += 1 + c>>40>>(c>>33%24)
			if at > greatest {
				break
			}
			l = append(l, uint32(at))
		}
		x := built(t, l)
		isTree(t, x, l)
		finds(t, x, l)
	}
}

// P19.1: ErrTwice, if numbers do not rise, wherever that is.
func TestTwice(t *testing.T) {
	for _, l := range [][]uint32{{0, 0}, {1, 1}, {greatest, greatest}, {1, 0}, {greatest, 0}, {0x80000000, 0x7fffffff}, {1, 2, 3, 3}, {1, 1, 2, 3}, {1, 3, 2, 4}, {5, 1, 2, 3}, {2, 3, 4, 1}, {7, 7, 7}} {
		fails(t, l, api.ErrTwice)
	}
	for _, at := range []int{1, 2, 100, 2047, 2048, 4094, 4095} {
		l := every(7, 3, api.MaxInst)
		l[at] = l[at-1]
		fails(t, l, api.ErrTwice)
		l[at]--
		fails(t, l, api.ErrTwice)
	}
}

// P19.1: ErrLong from 4097 numbers on; ErrTwice counts ahead of it (R2).
func TestLong(t *testing.T) {
	for _, n := range []int{api.MaxInst + 1, 5000, 1 << 16} {
		l := every(0, 5, n)
		fails(t, l, api.ErrLong)
		for _, at := range []int{1, api.MaxInst - 1, n - 1} {
			was := l[at]
			l[at] = l[at-1]
			fails(t, l, api.ErrTwice)
			l[at] = was
		}
	}
}

// P19.1: Find and Depth are right of every tree of the numbers, not of that alone which is built: nodes may stand in another order, and ask for what lies between two numbers.
func TestOtherTrees(t *testing.T) {
	l := []uint32{10, 20, 30, 40}
	for _, c := range []struct {
		x    []tree.Node
		deep int
	}{
		{[]tree.Node{leaf(40, 3), leaf(30, 2), leaf(20, 1), leaf(10, 0), asks(40, 1, 0), asks(20, 3, 2), asks(30, 5, 4)}, 2},
		{[]tree.Node{leaf(10, 0), leaf(20, 1), asks(11, 0, 1), leaf(30, 2), leaf(40, 3), asks(35, 3, 4), asks(25, 2, 5)}, 2},
		{[]tree.Node{leaf(10, 0), leaf(20, 1), leaf(30, 2), leaf(40, 3), asks(40, 2, 3), asks(30, 1, 4), asks(20, 0, 5)}, 3},
		{[]tree.Node{leaf(10, 0), leaf(20, 1), leaf(30, 2), leaf(40, 3), asks(20, 0, 1), asks(30, 4, 2), asks(40, 5, 3)}, 3},
	} {
		finds(t, c.x, l)
		if d := tree.Depth(c.x); d != c.deep {
			t.Errorf("%+v: %d deep, not %d", c.x, d, c.deep)
		}
	}
}

// R1: of nodes that are no tree nothing is promised; Find and Depth end and do not panic all the same.
func TestNoTree(t *testing.T) {
	for _, x := range [][]tree.Node{nil, {}, {asks(0, 0, 0)}, {asks(5, -1, 1)}, {asks(5, 7, -7)}, {leaf(1, 0), asks(2, 1, 1)}, {leaf(1, 0), asks(2, 2, -1)}, {asks(3, 1, 1), asks(3, 0, 0)}, {leaf(1, 0), asks(1, math.MinInt, math.MaxInt)}} {
		for n := range uint32(10) {
			tree.Find(x, n)
		}
		tree.Depth(x)
	}
	if tree.Find(nil, 0) != -1 || tree.Depth(nil) != 0 {
		t.Errorf("of no node: %d, %d", tree.Find(nil, 0), tree.Depth(nil))
	}
	// Were each way gone by itself, this would not end.
	x := []tree.Node{leaf(0, 0)}
	for at := range 1000 {
		x = append(x, asks(0, at, at))
	}
	if d := tree.Depth(x); d != 1000 {
		t.Errorf("%d deep", d)
	}
}

// R4: what is handed in is not changed, the spare room behind its end neither; what is handed out is new memory, in which what was handed in does not count any more.
func TestNewMemory(t *testing.T) {
	l := every(1, 2, 40)
	was := slices.Clone(l)
	first, again := built(t, l[:30]), built(t, l[:30])
	fails(t, append(l[:30:30], 1), api.ErrTwice)
	if !slices.Equal(l, was) {
		t.Errorf("changed: %v", l)
	}
	clear(l)
	isTree(t, first, was[:30])
	clear(first)
	isTree(t, again, was[:30])
	kept := slices.Clone(again)
	finds(t, again, was[:30])
	tree.Depth(again)
	if !slices.Equal(again, kept) {
		t.Error("a tree is changed")
	}
	none, other := built(t, nil), built(t, nil)
	none[0].Place = 7
	if other[0] != leaf(0, -1) || built(t, nil)[0] != leaf(0, -1) {
		t.Error("the tree of none is shared")
	}
}

// R5: what was asked ahead does not count.
func TestAgain(t *testing.T) {
	l := every(3, 5, 77)
	x := built(t, l)
	for n := range 50 {
		built(t, every(9, 1, n))
	}
	fails(t, []uint32{2, 1}, api.ErrTwice)
	if !slices.Equal(x, built(t, l)) {
		t.Error("another tree")
	}
}
