package systab_test

import (
	"math"
	"slices"
	"strconv"
	"strings"
	"testing"

	"strainer/api"
	"strainer/systab"
)

// document is the table of the document's chapter.
const document = `
| accept | 43 | 43 | - | 202 | 202 | 1 | 5 |
| accept4 | 288 | 288 | 364 | 242 | 242 | 1 | 18 |
| bind | 49 | 49 | 361 | 200 | 200 | 1 | 2 |
| brk | 12 | 12 | 45 | 214 | 214 | 0 | 0 |
| clone | 56 | 56 | 120 | 220 | 220 | 0 | 0 |
| close | 3 | 3 | 6 | 57 | 57 | 0 | 0 |
| connect | 42 | 42 | 362 | 203 | 203 | 1 | 3 |
| dup | 32 | 32 | 41 | 23 | 23 | 0 | 0 |
| dup2 | 33 | 33 | 63 | - | - | 0 | 0 |
| epoll_create1 | 291 | 291 | 329 | 20 | 20 | 0 | 0 |
| epoll_ctl | 233 | 233 | 255 | 21 | 21 | 0 | 0 |
| epoll_wait | 232 | 232 | 256 | - | - | 0 | 0 |
| execve | 59 | 520 | 11 | 221 | 221 | 0 | 0 |
| exit | 60 | 60 | 1 | 93 | 93 | 0 | 0 |
| exit_group | 231 | 231 | 252 | 94 | 94 | 0 | 0 |
| fchdir | 81 | 81 | 133 | 50 | 50 | 0 | 0 |
| fcntl | 72 | 72 | 55 | 25 | 25 | 0 | 0 |
| fork | 57 | 57 | 2 | - | - | 0 | 0 |
| fstat | 5 | 5 | 108 | 80 | 80 | 0 | 0 |
| futex | 202 | 202 | 240 | 98 | 98 | 0 | 0 |
| getcwd | 79 | 79 | 183 | 17 | 17 | 0 | 0 |
| getpeername | 52 | 52 | 368 | 205 | 205 | 1 | 7 |
| getpid | 39 | 39 | 20 | 172 | 172 | 0 | 0 |
| getrandom | 318 | 318 | 355 | 278 | 278 | 0 | 0 |
| getsockname | 51 | 51 | 367 | 204 | 204 | 1 | 6 |
| getsockopt | 55 | 542 | 365 | 209 | 209 | 1 | 15 |
| getuid | 102 | 102 | 24 | 174 | 174 | 0 | 0 |
| ioctl | 16 | 514 | 54 | 29 | 29 | 0 | 0 |
| kill | 62 | 62 | 37 | 129 | 129 | 0 | 0 |
| listen | 50 | 50 | 363 | 201 | 201 | 1 | 4 |
| lseek | 8 | 8 | 19 | 62 | 62 | 0 | 0 |
| mkdir | 83 | 83 | 39 | - | - | 0 | 0 |
| mmap | 9 | 9 | - | 222 | 222 | 0 | 0 |
| mmap2 | - | - | 192 | - | - | 0 | 0 |
| mprotect | 10 | 10 | 125 | 226 | 226 | 0 | 0 |
| msgctl | 71 | 71 | 402 | 187 | 187 | 2 | 14 |
| msgget | 68 | 68 | 399 | 186 | 186 | 2 | 13 |
| msgrcv | 70 | 70 | 401 | 188 | 188 | 2 | 12 |
| msgsnd | 69 | 69 | 400 | 189 | 189 | 2 | 11 |
| munmap | 11 | 11 | 91 | 215 | 215 | 0 | 0 |
| nanosleep | 35 | 35 | 162 | 101 | 101 | 0 | 0 |
| open | 2 | 2 | 5 | - | - | 0 | 0 |
| openat | 257 | 257 | 295 | 56 | 56 | 0 | 0 |
| pipe | 22 | 22 | 42 | - | - | 0 | 0 |
| pipe2 | 293 | 293 | 331 | 59 | 59 | 0 | 0 |
| poll | 7 | 7 | 168 | - | - | 0 | 0 |
| pread64 | 17 | 17 | 180 | 67 | 67 | 0 | 0 |
| prlimit64 | 302 | 302 | 340 | 261 | 261 | 0 | 0 |
| ptrace | 101 | 521 | 26 | 117 | 117 | 0 | 0 |
| pwrite64 | 18 | 18 | 181 | 68 | 68 | 0 | 0 |
| read | 0 | 0 | 3 | 63 | 63 | 0 | 0 |
| readv | 19 | 515 | 145 | 65 | 65 | 0 | 0 |
| recv | - | - | - | - | - | 1 | 10 |
| recvfrom | 45 | 517 | 371 | 207 | 207 | 1 | 12 |
| recvmsg | 47 | 519 | 372 | 212 | 212 | 1 | 17 |
| rename | 82 | 82 | 38 | - | - | 0 | 0 |
| riscv_flush_icache | - | - | - | - | 259 | 0 | 0 |
| rt_sigaction | 13 | 512 | 174 | 134 | 134 | 0 | 0 |
| rt_sigreturn | 15 | 513 | 173 | 139 | 139 | 0 | 0 |
| seccomp | 317 | 317 | 354 | 277 | 277 | 0 | 0 |
| select | 23 | 23 | 82 | - | - | 0 | 0 |
| semctl | 66 | 66 | 394 | 191 | 191 | 2 | 3 |
| semget | 64 | 64 | 393 | 190 | 190 | 2 | 2 |
| semop | 65 | 65 | - | 193 | 193 | 2 | 1 |
| send | - | - | - | - | - | 1 | 9 |
| sendmsg | 46 | 518 | 370 | 211 | 211 | 1 | 16 |
| sendto | 44 | 44 | 369 | 206 | 206 | 1 | 11 |
| setsockopt | 54 | 541 | 366 | 208 | 208 | 1 | 14 |
| shmat | 30 | 30 | 397 | 196 | 196 | 2 | 21 |
| shmctl | 31 | 31 | 396 | 195 | 195 | 2 | 24 |
| shmdt | 67 | 67 | 398 | 197 | 197 | 2 | 22 |
| shmget | 29 | 29 | 395 | 194 | 194 | 2 | 23 |
| shutdown | 48 | 48 | 373 | 210 | 210 | 1 | 13 |
| socket | 41 | 41 | 359 | 198 | 198 | 1 | 1 |
| socketpair | 53 | 53 | 360 | 199 | 199 | 1 | 8 |
| stat | 4 | 4 | 106 | - | - | 0 | 0 |
| time | 201 | 201 | 13 | - | - | 0 | 0 |
| uname | 63 | 63 | 122 | 160 | 160 | 0 | 0 |
| unlink | 87 | 87 | 10 | - | - | 0 | 0 |
| vfork | 58 | 58 | 190 | - | - | 0 | 0 |
| waitpid | - | - | 7 | - | - | 0 | 0 |
| write | 1 | 1 | 4 | 64 | 64 | 0 | 0 |
| writev | 20 | 516 | 146 | 66 | 66 | 0 | 0 |
`

// documented tells the rows of the document's table.
func documented(t *testing.T) []systab.Row {
	var l []systab.Row
	for line := range strings.Lines(strings.TrimSpace(document)) {
		words := strings.Split(strings.Trim(line, "| \n"), " | ")
		if len(words) != 8 {
			t.Fatalf("%d words in %q", len(words), line)
		}
		var numbers [7]int
		for at, word := range words[1:] {
			if word == "-" {
				word = "-1"
			}
			n, err := strconv.Atoi(word)
			if err != nil {
				t.Fatal(err)
			}
			numbers[at] = n
		}
		l = append(l, systab.Row{Name: words[0], Numbers: [5]int(numbers[:5]), Mux: numbers[5], Sub: numbers[6]})
	}
	return l
}

// P11.1: the built-in table is the document's.
func TestBuiltin(t *testing.T) {
	l, want := systab.Builtin(), documented(t)
	if len(l) != 83 || len(want) != 83 {
		t.Fatalf("%d rows, and %d", len(l), len(want))
	}
	for at, r := range l {
		if r != want[at] {
			t.Errorf("row %d: %+v, not %+v", at, r, want[at])
		}
	}
}

// P11.1, P11.3: the built-in table may be, and so may any of its rows, one behind the other.
func TestBuiltinIsRight(t *testing.T) {
	l := systab.Builtin()
	for from := range l {
		for to := from; to <= len(l); to++ {
			rightIs(t, l[from:to], 0, api.OK)
		}
	}
}

// R4, R5: the built-in table is new memory, the same each time.
func TestBuiltinIsNew(t *testing.T) {
	l, other := systab.Builtin(), systab.Builtin()
	for at := range l {
		l[at] = systab.Row{Name: "changed"}
	}
	l = append(l, systab.Row{Name: "zz"})
	for _, m := range [][]systab.Row{other, systab.Builtin()} {
		if !slices.Equal(m, documented(t)) {
			t.Fatal("changed by a change of another one")
		}
	}
}

// nowhere are the numbers of a name that no ABI has.
var nowhere = [5]int{-1, -1, -1, -1, -1}

// bare tells a row with a name alone.
func bare(name string) systab.Row { return systab.Row{Name: name, Numbers: nowhere} }

// with tells a row with one number.
func with(name string, a, number int) systab.Row {
	r := bare(name)
	r.Numbers[a] = number
	return r
}

// in tells a row with a number of a multiplexer.
func in(name string, mux, sub int) systab.Row {
	r := bare(name)
	r.Mux, r.Sub = mux, sub
	return r
}

// rightIs holds Right to an answer; the first one that is another ends the test, since a table's text is long.
func rightIs(t *testing.T, l []systab.Row, at int, e api.Errno) {
	t.Helper()
	if got, f := systab.Right(l); got != at || f != e {
		t.Fatalf("Right of %+v: %d, %d; not %d, %d", l, got, f, at, e)
	}
}

// rowIs holds Right to what it tells of a row, wherever the row stands: alone, ahead of others, behind others; its name is between theirs.
func rowIs(t *testing.T, r systab.Row, e api.Errno) {
	t.Helper()
	behind := 1
	if e == api.OK {
		behind = 0
	}
	last := bare(strings.Repeat("z", 30))
	rightIs(t, []systab.Row{r}, 0, e)
	rightIs(t, []systab.Row{r, last}, 0, e)
	rightIs(t, []systab.Row{bare("a"), r}, behind, e)
	rightIs(t, []systab.Row{bare("a"), r, last}, behind, e)
}

// P11.1, R3: a table may be empty; its rows may stand nowhere, or in each ABI with the same number.
func TestRightTables(t *testing.T) {
	rightIs(t, nil, 0, api.OK)
	rightIs(t, []systab.Row{}, 0, api.OK)
	rightIs(t, make([]systab.Row, 0, 3), 0, api.OK)
	rightIs(t, []systab.Row{bare("a"), bare("b"), bare("c")}, 0, api.OK)
	rightIs(t, []systab.Row{{Name: "a"}, {Name: "b", Numbers: [5]int{1, 1, 1, 1, 1}}, {Name: "c", Numbers: [5]int{2, 3, 4, 5, 6}, Mux: 1, Sub: 4}}, 0, api.OK)
	// One number in two ABIs, and in both multiplexers, and as the number of an ABI.
	rightIs(t, []systab.Row{with("a", 0, 7), with("b", 1, 7), with("c", 2, 7), with("d", 3, 7), with("e", 4, 7), in("f", 1, 7), in("g", 2, 7)}, 0, api.OK)
}

// P11.1: a name has 1 to 30 bytes, a small letter first, then small letters, figures and _; `default` and `x32` are none.
func TestRightNames(t *testing.T) {
	for _, name := range []string{"b", "z", "x", "ab", "a0", "a_", "b9_", "x3", "x33", "x322", "x320", "x_32", "defaul", "defaults", "default_", "default0", "a_default", "x64", "read", "epoll_create1", "b__", "b12345678901234567890123456789", "z" + strings.Repeat("_", 29), strings.Repeat("z", 29)} {
		rowIs(t, bare(name), api.OK)
	}
	names := []string{"", " ", "_", "_b", "0", "9b", "0x", "B", "Read", "bE", "b-c", "b c", "b ", " b", "b\n", "\nb", "b\x00", "\x00", "b.c", "b,", "b#", "b/c", "b:c", "b'", "b\u00e9", "\u00e9", "\xff", "b\xff", "b\u0661", "\uff42", "default", "x32", strings.Repeat("b", 31), strings.Repeat("b", 32), strings.Repeat("b", 286), strings.Repeat("b", 1000), strings.Repeat("_", 30), "b" + strings.Repeat("\u00e9", 15)}
	for _, name := range names {
		rightIs(t, []systab.Row{bare(name)}, 0, api.ErrForm)
		rightIs(t, []systab.Row{bare("a"), bare(name)}, 1, api.ErrForm)
		rightIs(t, []systab.Row{bare("a"), bare("b"), bare(name), bare("a")}, 2, api.ErrForm)
	}
	for b := range 256 {
		first, behind := api.ErrForm, api.ErrForm
		if b >= 'a' && b <= 'z' {
			first, behind = api.OK, api.OK
		}
		if b >= '0' && b <= '9' || b == '_' {
			behind = api.OK
		}
		s := string([]byte{byte(b)})
		rightIs(t, []systab.Row{bare(s)}, 0, first)
		rightIs(t, []systab.Row{bare(s + "b")}, 0, first)
		rightIs(t, []systab.Row{bare("c" + s)}, 0, behind)
		rightIs(t, []systab.Row{bare("c" + s + "c")}, 0, behind)
	}
}

// P11.1: names rise, byte by byte, each above the one ahead.
func TestRightOrder(t *testing.T) {
	for _, pair := range [][2]string{{"a", "b"}, {"a", "aa"}, {"a", "a0"}, {"a0", "a_"}, {"a9", "a_"}, {"a_", "aa"}, {"a10", "a9"}, {"az", "b"}, {"dup", "dup2"}, {"accept", "accept4"}, {"a0a", "a_0"}} {
		rightIs(t, []systab.Row{bare(pair[0]), bare(pair[1])}, 0, api.OK)
		rightIs(t, []systab.Row{bare(pair[1]), bare(pair[0])}, 1, api.ErrTwice)
		rightIs(t, []systab.Row{bare(pair[0]), bare(pair[0])}, 1, api.ErrTwice)
		rightIs(t, []systab.Row{bare(pair[0]), bare(pair[1]), bare(pair[0])}, 2, api.ErrTwice)
	}
}

// P11.1: a number is from -1 to 2^30 - 1, in each ABI.
func TestRightNumbers(t *testing.T) {
	for a := range api.ABIs {
		for _, n := range []int{-1, 0, 1, 101, 103, 116, 118, 512, 1<<30 - 2, 1<<30 - 1} {
			rowIs(t, with("b", a, n), api.OK)
		}
		for _, n := range []int{-2, -3, -42, -1 << 30, -1 << 31, -1 << 32, math.MinInt, math.MinInt + 5, 1 << 30, 1<<30 + 1, 1<<30 + 102, 1<<31 - 1, 1 << 31, 1 << 32, 1<<32 - 1, 1<<32 + 1, 1<<32 + 102, math.MaxInt} {
			rowIs(t, with("b", a, n), api.ErrRange)
		}
	}
}

// P11.1: a multiplexer is 0, 1 or 2; its number is 0 without one, else from 1 to 255.
func TestRightMuxes(t *testing.T) {
	for _, mux := range []int{-1, -2, -256, 0, 1, 2, 3, 4, 102, 117, 255, 256, 257, 1<<32 + 1, math.MinInt, math.MaxInt} {
		for _, sub := range []int{-1, -2, -255, 0, 1, 2, 24, 254, 255, 256, 257, 511, 1<<16 + 1, 1<<32 + 1, math.MinInt, math.MaxInt} {
			e := api.ErrRange
			if mux == 0 && sub == 0 || (mux == 1 || mux == 2) && sub >= 1 && sub <= 255 {
				e = api.OK
			}
			rowIs(t, in("b", mux, sub), e)
		}
	}
}

// P11.1: the multiplexers' own numbers are no call's of i386; they may be of other ABIs.
func TestRightOwnNumbers(t *testing.T) {
	for _, n := range []int{102, 117} {
		for a := range api.ABIs {
			e := api.OK
			if a == api.I386 {
				e = api.ErrMux
			}
			rowIs(t, with("b", a, n), e)
		}
		rowIs(t, systab.Row{Name: "b", Numbers: nowhere, Mux: 1, Sub: n}, api.OK)
	}
}

// P11.1: no number is an earlier row's, in its ABI or its multiplexer, however far ahead that row is.
func TestRightTwice(t *testing.T) {
	for a := range api.ABIs {
		for _, n := range []int{0, 1, 7, 1<<30 - 1} {
			rightIs(t, []systab.Row{with("a", a, n), with("b", a, n)}, 1, api.ErrTwice)
			rightIs(t, []systab.Row{with("a", a, n), bare("b"), with("c", a, n^1), with("d", a, n)}, 3, api.ErrTwice)
		}
	}
	for _, mux := range []int{1, 2} {
		for _, sub := range []int{1, 7, 255} {
			rightIs(t, []systab.Row{in("a", mux, sub), in("b", mux, sub)}, 1, api.ErrTwice)
			rightIs(t, []systab.Row{in("a", mux, sub), in("b", 3-mux, sub), bare("c"), in("d", mux, sub)}, 3, api.ErrTwice)
		}
	}
}

// P11.1, R2: of several faults of a row the one that is named first counts.
func TestRightFirst(t *testing.T) {
	all := systab.Row{Name: "B", Numbers: [5]int{1 << 30, 0, 102, 0, 0}, Mux: 3}
	ahead := systab.Row{Name: "c", Mux: 1, Sub: 1}
	rightIs(t, []systab.Row{ahead, all}, 1, api.ErrForm)
	all.Name = "b"
	rightIs(t, []systab.Row{ahead, all}, 1, api.ErrTwice)
	all.Name = "d"
	rightIs(t, []systab.Row{ahead, all}, 1, api.ErrRange)
	all.Numbers[api.X64] = 0
	rightIs(t, []systab.Row{ahead, all}, 1, api.ErrRange)
	all.Mux = 1
	rightIs(t, []systab.Row{ahead, all}, 1, api.ErrRange)
	all.Sub = 1
	rightIs(t, []systab.Row{ahead, all}, 1, api.ErrMux)
	all.Numbers[api.I386] = 7
	rightIs(t, []systab.Row{ahead, all}, 1, api.ErrTwice)
	all.Numbers = [5]int{7, 7, 7, 7, 7}
	rightIs(t, []systab.Row{ahead, all}, 1, api.ErrTwice)
	all.Sub = 2
	rightIs(t, []systab.Row{ahead, all}, 0, api.OK)
}

// P11.1: of several rows with a fault the first one counts, whatever its fault is.
func TestRightFirstRow(t *testing.T) {
	faults := []systab.Row{bare("B"), bare("a"), with("c", 3, -2), in("c", 1, 0), with("c", api.I386, 117), with("c", 0, 5), in("c", 2, 9)}
	kinds := []api.Errno{api.ErrForm, api.ErrTwice, api.ErrRange, api.ErrRange, api.ErrMux, api.ErrTwice, api.ErrTwice}
	first := systab.Row{Name: "b", Numbers: [5]int{5, 5, 5, 5, 5}, Mux: 2, Sub: 9}
	for at, r := range faults {
		for _, later := range faults {
			rightIs(t, []systab.Row{first, r, later}, 1, kinds[at])
		}
	}
}

// many tells rows that may be, each with a number of its own.
func many(n int) []systab.Row {
	var l []systab.Row
	for at := range n {
		l = append(l, with("n"+strconv.Itoa(10000+at), at%api.ABIs, at+1000))
	}
	return l
}

// P11.1: 400 rows may be; one more is too many, whatever else is wrong (R2).
func TestRightMany(t *testing.T) {
	rightIs(t, many(399), 0, api.OK)
	rightIs(t, many(400), 0, api.OK)
	for _, n := range []int{401, 402, 500, 656, 800, 1000} {
		rightIs(t, many(n), 0, api.ErrLong)
	}
	l := many(401)
	for _, at := range []int{0, 1, 200, 399, 400} {
		other := slices.Clone(l)
		other[at].Name = "Z"
		rightIs(t, other, 0, api.ErrLong)
		if at < 400 {
			rightIs(t, other[:400], at, api.ErrForm)
		}
	}
	last := many(400)
	last[399] = with("z", 0, last[0].Numbers[0])
	rightIs(t, last, 399, api.ErrTwice)
}

// judge tells what Right must, by the document's words, each row held against each one ahead.
func judge(l []systab.Row) (int, api.Errno) {
	for at, r := range l {
		between := func(n, least, most int) bool { return n >= least && n <= most }
		fits, twice := r.Mux == 0 && r.Sub == 0 || between(r.Mux, 1, 2) && between(r.Sub, 1, 255), false
		for a, n := range r.Numbers {
			fits = fits && between(n, -1, 1<<30-1)
			for _, earlier := range l[:at] {
				twice = twice || n >= 0 && earlier.Numbers[a] == n || r.Mux > 0 && earlier.Mux == r.Mux && earlier.Sub == r.Sub
			}
		}
		switch n := r.Numbers[api.I386]; {
		case r.Name == "" || r.Name[0] < 'a':
			return at, api.ErrForm
		case at > 0 && strings.Compare(r.Name, l[at-1].Name) <= 0:
			return at, api.ErrTwice
		case !fits:
			return at, api.ErrRange
		case n == 102 || n == 117:
			return at, api.ErrMux
		case twice:
			return at, api.ErrTwice
		}
	}
	return 0, api.OK
}

// P11.1: tables of which much is right, and something may be wrong, against a second telling.
func TestRightOfMany(t *testing.T) {
	seed := uint32(1)
	next := func(n int) int {
		seed = seed*1664525 + 1013904223
		return int(seed>>8) % n
	}
	told := map[api.Errno]int{}
	for range 30000 {
		var l []systab.Row
		for at := range next(8) {
			r := systab.Row{Name: string(rune('b'+at)) + strconv.Itoa(next(9))}
			if next(20) == 0 {
				r.Name = []string{"", "B", "a", "b5", "e0", "x"}[next(6)]
			}
			for a := range r.Numbers {
				r.Numbers[a] = []int{-1, next(30), next(200), 100 + next(20), -1, next(1000), -1, 1<<30 - 1 - next(50)}[next(8)]
			}
			if next(30) == 0 {
				r.Numbers[next(5)] = []int{-2, 1 << 30, 102, 117}[next(4)]
			}
			if next(3) == 0 {
				r.Mux, r.Sub = 1+next(2), 1+next(20)
			}
			if next(30) == 0 {
				r.Mux, r.Sub = next(4), next(3)*128
			}
			l = append(l, r)
		}
		at, e := judge(l)
		rightIs(t, l, at, e)
		told[e]++
	}
	for _, e := range []api.Errno{api.OK, api.ErrForm, api.ErrTwice, api.ErrRange, api.ErrMux} {
		if told[e] < 100 {
			t.Errorf("error %d told %d times alone", e, told[e])
		}
	}
}

// noABIs are none; some are one in their lower half, or lowest byte.
var noABIs = []int{-1, -2, -5, -256, 5, 6, 7, 8, 255, 256, 257, 1 << 16, 1 << 31, 1 << 32, 1<<32 + 1, math.MinInt, math.MinInt + 1, math.MaxInt}

// tables are some that may be.
func tables() [][]systab.Row {
	return [][]systab.Row{systab.Builtin(), many(400), {bare("a")}, {{Name: "a"}}, {bare("a"), {Name: "b", Numbers: [5]int{0, 1, 2, 3, 1<<30 - 1}, Mux: 2, Sub: 255}, bare("c"), with("d", 3, 0)}}
}

// P11.2: each name's row, and its place; of others zeros and false (R2).
func TestFind(t *testing.T) {
	for _, l := range tables() {
		for at, want := range l {
			if r, got, ok := systab.Find(l, want.Name); r != want || got != at || !ok {
				t.Errorf("Find %q: %+v, %d, %t; not %+v, %d", want.Name, r, got, ok, want, at)
			}
		}
		for _, name := range noNames(l) {
			if r, at, ok := systab.Find(l, name); r != (systab.Row{}) || at != 0 || ok {
				t.Errorf("Find %q: %+v, %d, %t", name, r, at, ok)
			}
		}
	}
	if r, at, ok := systab.Find(nil, "read"); r != (systab.Row{}) || at != 0 || ok {
		t.Errorf("Find of no rows: %+v, %d, %t", r, at, ok)
	}
}

// noNames tells names that a table does not have: below all, above all, and near to those that it has.
func noNames(l []systab.Row) []string {
	names := []string{"", "0", "A", "READ", "nope", "default", "x32", "zzzz", "\xff", "read ", " read", "read\x00", strings.Repeat("z", 1000)}
	for _, r := range l {
		names = append(names, r.Name+"_", r.Name+"\x00", "_"+r.Name, strings.ToUpper(r.Name), r.Name+r.Name)
	}
	return names
}

// P11.2: numbers and pseudo-numbers by hand; the document's example.
func TestNumberByHand(t *testing.T) {
	l := systab.Builtin()
	for _, c := range []struct {
		a    int
		name string
		want int
	}{
		{api.X64, "open", 2}, {api.X32, "open", 2}, {api.I386, "open", 5}, {api.Arm64, "open", -42}, {api.Riscv64, "open", -42},
		{api.X64, "read", 0}, {api.I386, "accept", -1}, {api.X64, "accept", 43}, {api.Arm64, "accept", 202},
		{api.X64, "execve", 59}, {api.X32, "execve", 520}, {api.Arm64, "write", 64}, {api.Riscv64, "writev", 66}, {api.X64, "writev", 20},
		{api.X64, "recv", -53}, {api.X32, "recv", -53}, {api.I386, "recv", -53}, {api.Arm64, "recv", -53}, {api.Riscv64, "recv", -53},
		{api.X64, "waitpid", -81}, {api.I386, "waitpid", 7}, {api.Arm64, "vfork", -80},
		{api.Riscv64, "riscv_flush_icache", 259}, {api.Arm64, "riscv_flush_icache", -57}, {api.X64, "mmap2", -34}, {api.I386, "mmap2", 192},
	} {
		if n, e := systab.Number(l, c.a, c.name); n != c.want || e != api.OK {
			t.Errorf("Number of %q of %d: %d, %d; not %d", c.name, c.a, n, e, c.want)
		}
		if s, e := systab.Name(l, c.a, c.want); s != c.name || e != api.OK {
			t.Errorf("Name of %d of %d: %q, %d; not %q", c.want, c.a, s, e, c.name)
		}
	}
}

// P11.2, P11.3: names and numbers there and back, of each row in each ABI; the pseudo-number is the place's.
func TestThereAndBack(t *testing.T) {
	for _, l := range tables() {
		rightIs(t, l, 0, api.OK)
		for a := range api.ABIs {
			byNumber := map[int]string{}
			for at, r := range l {
				want := r.Numbers[a]
				if want < 0 {
					want = -(at + 1)
				}
				n, e := systab.Number(l, a, r.Name)
				if n != want || e != api.OK {
					t.Errorf("Number of %q of %d: %d, %d; not %d", r.Name, a, n, e, want)
				}
				if s, e := systab.Name(l, a, n); s != r.Name || e != api.OK {
					t.Errorf("%q of %d, number %d: named %q, %d", r.Name, a, n, s, e)
				}
				byNumber[n] = r.Name
			}
			if len(byNumber) != len(l) {
				t.Errorf("%d numbers of %d rows", len(byNumber), len(l))
			}
			noOther(t, l, a, byNumber)
		}
	}
}

// noOther holds Name to no other numbers than those by which a name goes: also not to the pseudo-number of a row that has a number.
func noOther(t *testing.T, l []systab.Row, a int, byNumber map[int]string) {
	t.Helper()
	numbers := []int{math.MinInt, math.MinInt + 1, math.MinInt32, -1 << 32, -1<<32 - 1, -len(l) - 1, -len(l) - 2, 102, 117, 1 << 30, 1<<30 - 1, 1<<30 + 2, 1 << 32, 1<<32 + 2, math.MaxInt32, math.MaxInt - 1, math.MaxInt}
	for n := -len(l) - 10; n < 1500; n++ {
		numbers = append(numbers, n)
	}
	for _, n := range numbers {
		want, e := byNumber[n], api.OK
		if want == "" {
			e = api.ErrName
		}
		if s, f := systab.Name(l, a, n); s != want || f != e {
			t.Errorf("Name of %d of %d: %q, %d; not %q, %d", n, a, s, f, want, e)
		}
	}
}

// P11.2, R2: an ABI that is none counts ahead of a name, or a number, that is none; nothing stands beside the error.
func TestWrongAsked(t *testing.T) {
	for _, l := range append(tables(), nil) {
		for _, a := range noABIs {
			for _, name := range []string{"read", "open", "a", "nope", ""} {
				if n, e := systab.Number(l, a, name); n != 0 || e != api.ErrRange {
					t.Errorf("Number of %q of %d: %d, %d", name, a, n, e)
				}
			}
			for _, n := range []int{0, 3, -1, -42, 1 << 30, 1000, math.MinInt, math.MaxInt} {
				if s, e := systab.Name(l, a, n); s != "" || e != api.ErrRange {
					t.Errorf("Name of %d of %d: %q, %d", n, a, s, e)
				}
			}
		}
		for a := range api.ABIs {
			for _, name := range noNames(l) {
				if n, e := systab.Number(l, a, name); n != 0 || e != api.ErrName {
					t.Errorf("Number of %q of %d: %d, %d", name, a, n, e)
				}
			}
			noOther(t, nil, a, nil)
		}
	}
}

// P11.2: each multiplexer's numbers; of others, and of what is no multiplexer, "" and false (R2).
func TestSub(t *testing.T) {
	for _, l := range tables() {
		want := map[[2]int]string{}
		for _, r := range l {
			if r.Mux > 0 {
				want[[2]int{r.Mux, r.Sub}] = r.Name
			}
		}
		for _, mux := range []int{-1, -2, 0, 1, 2, 3, 4, 102, 117, 256, 257, 1<<32 + 1, math.MinInt, math.MaxInt} {
			for _, sub := range []int{math.MinInt, 1<<32 + 3, 1<<32 - 1, 102, 117, math.MaxInt} {
				subIs(t, l, mux, sub, "")
			}
			for sub := -300; sub < 700; sub++ {
				subIs(t, l, mux, sub, want[[2]int{mux, sub}])
			}
		}
	}
	subIs(t, nil, 1, 3, "")
	l := systab.Builtin()
	subIs(t, l, 1, 1, "socket")
	subIs(t, l, 1, 3, "connect")
	subIs(t, l, 1, 18, "accept4")
	subIs(t, l, 2, 1, "semop")
	subIs(t, l, 2, 3, "semctl")
	subIs(t, l, 2, 24, "shmctl")
}

// subIs holds Sub to a name; "" is none.
func subIs(t *testing.T, l []systab.Row, mux, sub int, want string) {
	t.Helper()
	if s, ok := systab.Sub(l, mux, sub); s != want || ok != (want != "") {
		t.Errorf("Sub of %d, %d: %q, %t; not %q", mux, sub, s, ok, want)
	}
}

// R4: the rows that are handed in, and the room behind them, are neither changed nor looked at. R5: asked again, the same.
func TestHandedIn(t *testing.T) {
	whole := systab.Builtin()
	whole = append(whole, bare("B"), with("read", 0, -7), in("zz", 1, 19), in("zzz", 2, 25))
	was := slices.Clone(whole)
	for many := range whole {
		l := whole[:many]
		for range 3 {
			at, e := systab.Right(l)
			rightIs(t, slices.Clone(l), at, e)
			if _, _, ok := systab.Find(l, was[many].Name); ok && was[many].Name != "read" {
				t.Errorf("Find finds %q behind %d rows", was[many].Name, many)
			}
			for _, a := range []int{api.X64, api.Riscv64} {
				if s, e := systab.Name(l, a, -1-many); s != "" || e != api.ErrName {
					t.Errorf("Name finds %q behind %d rows", s, many)
				}
			}
			subIs(t, l[:min(many, 85)], 1, 19, "")
			subIs(t, l, 2, 25, "")
		}
		if !slices.Equal(whole, was) {
			t.Fatal("the rows were changed")
		}
	}
}
