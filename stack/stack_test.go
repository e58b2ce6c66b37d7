package stack_test

import (
	"fmt"
	"math"
	"slices"
	"testing"

	"strainer/act"
	"strainer/api"
	"strainer/build"
	"strainer/cond"
	"strainer/data"
	"strainer/inst"
	"strainer/judge"
	"strainer/policy"
	"strainer/stack"
	"strainer/systab"
)

const (
	bit    = 0x40000000
	noCall = 0xffffffff
)

// The tokens.
const (
	x86     = 0xc000003e
	i386    = 0x40000003
	arm64   = 0xc00000b7
	riscv64 = 0xc00000f3
)

// Codes of actions.
const (
	toKill       = 0x80000000
	toKillThread = 0
	toTrap       = 0x00030000
	toErrno      = 0x00050000
	toNotify     = 0x7fc00000
	toTrace      = 0x7ff00000
	toLog        = 0x7ffc0000
	toAllow      = 0x7fff0000
)

// Actions that the tests put.
var (
	kill  = act.Action{Kind: 1}
	trap  = act.Action{Kind: 3}
	log   = act.Action{Kind: 7}
	allow = act.Action{Kind: 8}
)

func errno(n int) act.Action { return act.Action{Kind: 4, Number: n} }

func trace(n int) act.Action { return act.Action{Kind: 6, Number: n} }

func rule(name string, a act.Action, l ...cond.Cond) policy.Rule {
	return policy.Rule{Name: name, Action: a, Conds: l}
}

// is tells the condition that an argument is a value.
func is(arg int, value uint64) cond.Cond { return cond.Cond{Arg: arg, Op: 1, Value: value} }

// brief tells a thing's beginning.
func brief(a any) string { return fmt.Sprintf("%.600s", fmt.Sprintf("%+v", a)) }

// record tells a record of a token, a number, and arguments.
func record(arch, number uint32, args ...uint64) data.Record {
	r := data.Record{Number: number, Arch: arch}
	copy(r.Args[:], args)
	return r
}

// parsed tells the policy of a text.
func parsed(t *testing.T, text string) policy.Policy {
	t.Helper()
	p, at, e := policy.Parse(text)
	if e != api.OK {
		t.Fatalf("Parse of %q: %d, %d", text, at, e)
	}
	return p
}

// built tells the program of a policy that has one.
func built(t *testing.T, p policy.Policy) []byte {
	t.Helper()
	o, e := build.Policy(p, systab.Builtin())
	if e != api.OK {
		t.Fatalf("Policy of %s: %d", brief(p), e)
	}
	return o.Program
}

// ret tells the program that tells a number of all records.
func ret(k uint32) []byte { return inst.Write([]inst.Inst{{Code: 0x06, K: k}}) }

// P25.1: the document's example, and those of some kinds: of the strictest one the last one.
func TestStrictest(t *testing.T) {
	for _, c := range []struct {
		l    []act.Action
		want act.Action
	}{
		{[]act.Action{log, errno(1)}, errno(1)},
		{[]act.Action{errno(1), errno(2)}, errno(2)},
		{[]act.Action{errno(2), errno(1)}, errno(1)},
		{[]act.Action{errno(2), errno(1), allow, trace(4)}, errno(1)},
		{[]act.Action{allow, errno(4095), trace(3), errno(0), log}, errno(0)},
		{[]act.Action{trace(9), trace(65535), trace(0), log}, trace(0)},
		{[]act.Action{trace(9), allow, trace(65535)}, trace(65535)},
		{[]act.Action{allow}, allow},
		{[]act.Action{trap, kill, {Kind: 2}}, kill},
		{[]act.Action{{Kind: 2}, trap, {Kind: 2}}, act.Action{Kind: 2}},
		{slices.Repeat([]act.Action{allow, log, errno(9), errno(7)}, 1000), errno(7)},
	} {
		if a, e := stack.Strictest(c.l); e != api.OK || a != c.want {
			t.Errorf("P25.1: %s: %v, %d, not %v", brief(c.l), a, e, c.want)
		}
	}
	for one := 1; one <= 8; one++ {
		for other := 1; other <= 8; other++ {
			l := []act.Action{{Kind: one}, {Kind: other}}
			if a, e := stack.Strictest(l); e != api.OK || a != (act.Action{Kind: min(one, other)}) {
				t.Errorf("P25.1: %v: %v, %d", l, a, e)
			}
		}
	}
}

// P25.1, R2: ErrEmpty of none; ErrRange, if one may not be, wherever it stands, also if another one is the strictest.
func TestStrictestWrong(t *testing.T) {
	for _, l := range [][]act.Action{nil, {}, make([]act.Action, 0, 4)} {
		if a, e := stack.Strictest(l); e != api.ErrEmpty || a != (act.Action{}) {
			t.Errorf("P25.1: %v, %d", a, e)
		}
	}
	for _, wrong := range []act.Action{{}, {Kind: 9}, {Kind: -1}, {Kind: math.MinInt}, {Kind: math.MaxInt}, {Kind: 1, Number: 1}, {Kind: 8, Number: -1}, errno(4096), errno(-1), trace(65536)} {
		for _, l := range [][]act.Action{{wrong}, {wrong, kill}, {kill, wrong}, {allow, wrong, allow}} {
			if a, e := stack.Strictest(l); e != api.ErrRange || a != (act.Action{}) {
				t.Errorf("P25.1: %v: %v, %d", l, a, e)
			}
		}
	}
}

// tells holds a stack to what it tells of a record.
func tells(t *testing.T, programs [][]byte, r data.Record, want uint32) {
	t.Helper()
	b := data.Write(r, false)
	if code, e := stack.Run(programs, b[:]); e != api.OK || code != want {
		t.Errorf("P25.1: %#x: %#x, %d, not %#x", r, code, e, want)
	}
}

// P25.1: the strictest of what the programs tell, the later ones behind the earlier ones; a code that is no action's is kill's.
func TestRun(t *testing.T) {
	codes := []uint32{toKill, toKillThread, toTrap, toErrno + 1, toNotify, toTrace + 1, toLog, toAllow}
	for at, one := range codes {
		tells(t, [][]byte{ret(one)}, data.Record{}, one)
		for to, other := range codes {
			tells(t, [][]byte{ret(one), ret(other)}, data.Record{}, codes[min(at, to)])
			tells(t, [][]byte{ret(toAllow), ret(one), ret(toAllow), ret(other), ret(toLog)}, data.Record{}, codes[min(at, to, 6)])
		}
	}
	tells(t, [][]byte{ret(toErrno + 1), ret(toErrno + 4095)}, data.Record{}, toErrno+4095)
	tells(t, [][]byte{ret(toErrno + 4095), ret(toAllow), ret(toErrno)}, data.Record{}, toErrno)
	tells(t, [][]byte{ret(toTrace + 5), ret(toTrace + 65535), ret(toTrace + 4)}, data.Record{}, toTrace+4)
	for _, none := range []uint32{1, toTrap - 1, toTrap + 1, toErrno + 4096, toNotify - 1, toNotify + 1, toTrace - 1, toLog + 1, toAllow - 1, toAllow + 1, toKill - 1, toKill + 1, noCall, 0x00060000} {
		tells(t, [][]byte{ret(none)}, data.Record{}, toKill)
		tells(t, [][]byte{ret(toAllow), ret(none), ret(0)}, data.Record{}, toKill)
	}
	tells(t, slices.Repeat([][]byte{ret(toAllow)}, 1000), data.Record{}, toAllow)
}

// P25.1: programs look at the record; ret a tells a code that is an action's, or none's.
func TestRunRecords(t *testing.T) {
	number := inst.Write([]inst.Inst{{Code: 0x20}, {Code: 0x16}})
	token := inst.Write([]inst.Inst{{Code: 0x20, K: 4}, {Code: 0x16}})
	tells(t, [][]byte{number, token}, record(toLog, toAllow), toLog)
	tells(t, [][]byte{number, token}, record(toErrno+2, toErrno+1), toErrno+2)
	tells(t, [][]byte{token, number}, record(toErrno+2, toErrno+1), toErrno+1)
	tells(t, [][]byte{number, token}, record(toTrap, 7), toKill)
	p, q := built(t, parsed(t, "default errno 1\nread allow\nwrite allow if a0 == 1")), built(t, parsed(t, "default log\nx32 on\nread trap if a0 == 5\nwrite allow"))
	for _, c := range []struct {
		r    data.Record
		want uint32
	}{
		{record(x86, 0), toLog}, {record(x86, 0, 5), toTrap}, {record(x86, 1, 1), toAllow}, {record(x86, 1, 2), toErrno + 1},
		{record(x86, 2), toErrno + 1}, {record(x86, bit), toKill}, {record(i386, 4, 1<<32+1), toAllow}, {record(7, 0), toKill},
	} {
		tells(t, [][]byte{p, q}, c.r, c.want)
		tells(t, [][]byte{q, p}, c.r, c.want)
	}
}

// P25.1, R2: ErrEmpty of no programs; else the first program's error, in order: that of its bytes, layer 4's, the record's.
func TestRunWrong(t *testing.T) {
	right, record := ret(toAllow), make([]byte, api.RecordSize)
	short, empty, noEnd := []byte{1, 2, 3}, []byte{}, inst.Write([]inst.Inst{{Code: 0x84}})
	for at, c := range []struct {
		programs [][]byte
		record   []byte
		want     api.Errno
	}{
		{nil, record, api.ErrEmpty},
		{[][]byte{}, nil, api.ErrEmpty},
		{nil, record[:3], api.ErrEmpty},
		{[][]byte{nil}, record, api.ErrEmpty},
		{[][]byte{short}, record, api.ErrShort},
		{[][]byte{make([]byte, 8*api.MaxInst+8)}, record, api.ErrLong},
		{[][]byte{noEnd}, record, api.ErrRet},
		{[][]byte{right}, record[:63], api.ErrShort},
		{[][]byte{right}, nil, api.ErrShort},
		{[][]byte{right}, append(record, 0), api.ErrLong},
		{[][]byte{right, right, noEnd}, record, api.ErrRet},
		{[][]byte{ret(toKill), noEnd}, record, api.ErrRet},
		{[][]byte{noEnd, short}, record, api.ErrRet},
		{[][]byte{short, noEnd}, record, api.ErrShort},
		{[][]byte{right, empty, short, noEnd}, record, api.ErrEmpty},
		{[][]byte{right, noEnd}, append(record, 0), api.ErrLong},
		{[][]byte{noEnd, right}, append(record, 0), api.ErrRet},
		{[][]byte{right, noEnd}, record[:1], api.ErrShort},
	} {
		if code, e := stack.Run(c.programs, c.record); e != c.want || code != 0 {
			t.Errorf("P25.1: %d: %#x, %d, not %d", at, code, e, c.want)
		}
	}
}

// merges holds Merge to a policy's own text.
func merges(t *testing.T, p, q, want string) {
	t.Helper()
	one, e := stack.Merge(parsed(t, p), parsed(t, q))
	text, _ := policy.Print(one)
	if e != api.OK || text != want+"\n" || !policy.Right(one) {
		t.Errorf("P25.2: %q and %q: %q, %d, not %q", p, q, text, e, want)
	}
}

// P25.2: defaults, x32, names in order, pairs in order, up to the first one without conditions.
func TestMerge(t *testing.T) {
	merges(t, "default allow", "default allow", "default allow")
	merges(t, "default errno 1", "default errno 2", "default errno 2")
	merges(t, "default errno 2", "default errno 1", "default errno 1")
	merges(t, "default log", "default trap", "default trap")
	merges(t, "default trap", "default log", "default trap")
	merges(t, "default log\nx32 on", "default log", "default log")
	merges(t, "default log", "default log\nx32 on", "default log")
	merges(t, "default log\nx32 on", "default log\nx32 on", "default log\nx32 on")
	// A name of the one alone meets the other one's default.
	merges(t, "default log\nread allow", "default errno 1", "default errno 1\nread errno 1")
	merges(t, "default errno 1", "default log\nread trap", "default errno 1\nread trap")
	merges(t, "default errno 1", "default log\nread errno 2 if a0 == 1", "default errno 1\nread errno 2 if a0 == 1\nread errno 1")
	merges(t, "default errno 1\nread errno 2 if a0 == 1", "default log", "default errno 1\nread errno 2 if a0 == 1\nread errno 1")
	// Names stand in the order of their first rules, first the earlier one's; the names' order in the later one does not matter to them.
	merges(t, "default allow\nwrite log\nread log\nopen log", "default allow\nbrk log\nopen trap\naccept log\nwrite kill\ndup log\nbrk log", "default allow\nwrite kill\nread log\nopen trap\nbrk log\naccept log\ndup log")
	merges(t, "default allow\nread log if a0 == 1\nwrite log\nread log", "default allow", "default allow\nread log if a0 == 1\nread log\nwrite log")
	// Pairs: for each rule of the earlier one all those of the later one, and its default.
	merges(t, "default allow\nread errno 1 if a0 == 1\nread log if a0 == 2", "default log\nread errno 2 if a1 == 1\nread allow if a1 == 2",
		"default log\nread errno 2 if a0 == 1 and a1 == 1\nread errno 1 if a0 == 1 and a1 == 2\nread errno 1 if a0 == 1\nread errno 2 if a0 == 2 and a1 == 1\nread log if a0 == 2 and a1 == 2\nread log if a0 == 2\nread errno 2 if a1 == 1\nread allow if a1 == 2\nread log")
	merges(t, "default allow\nread errno 1 if a0 == 1\nread log", "default allow\nread trap if a1 == 1\nread errno 5",
		"default allow\nread trap if a0 == 1 and a1 == 1\nread errno 5 if a0 == 1\nread errno 1 if a0 == 1\nread trap if a1 == 1\nread errno 5")
	// Behind a pair without conditions no pair of that name stands; a rule without any leaves out none, while the other one of its pair has some.
	merges(t, "default allow\nread log\nread trap if a0 == 1", "default allow\nread trap\nread log if a0 == 1\nwrite log", "default allow\nread trap\nwrite log")
	merges(t, "default allow\nread log if a0 == 1", "default allow\nread trap\nread kill if a1 == 1", "default allow\nread trap if a0 == 1\nread kill if a0 == 1 and a1 == 1\nread log if a0 == 1\nread trap")
}

// P25.2: a pair's conditions are those of the earlier one's rule, then those of the later one's that are not there yet.
func TestMergeConds(t *testing.T) {
	merges(t, "default allow\nread log if a0 == 1 and a1 == 2", "default allow\nread trap if a1 == 2 and a2 == 3 and a0 == 1 and a2 == 3",
		"default allow\nread trap if a0 == 1 and a1 == 2 and a2 == 3\nread log if a0 == 1 and a1 == 2\nread trap if a1 == 2 and a2 == 3 and a0 == 1\nread allow")
	// Those of the earlier one's rule stay as they are.
	merges(t, "default allow\nread log if a1 == 2 and a0 == 1 and a1 == 2", "default allow\nread trap if a0 == 1",
		"default allow\nread trap if a1 == 2 and a0 == 1 and a1 == 2\nread log if a1 == 2 and a0 == 1 and a1 == 2\nread trap if a0 == 1\nread allow")
	// Conditions that mean the same are not the same.
	merges(t, "default allow\nread log if a0 <= 1", "default allow\nread trap if a0 < 2 and a0 & 1 == 1 and a0 & 3 == 1",
		"default allow\nread trap if a0 <= 1 and a0 < 2 and a0 & 1 == 1 and a0 & 3 == 1\nread log if a0 <= 1\nread trap if a0 < 2 and a0 & 1 == 1 and a0 & 3 == 1\nread allow")
}

// P25.2: ErrForm, if one of the two may not be.
func TestMergeWrong(t *testing.T) {
	right := policy.Policy{Default: allow}
	for _, wrong := range []policy.Policy{
		{},
		{Default: act.Action{Kind: 9}},
		{Default: allow, Rules: []policy.Rule{rule("", allow)}},
		{Default: allow, Rules: []policy.Rule{rule("read", allow), rule("READ", allow)}},
		{Default: allow, Rules: []policy.Rule{rule("read", errno(4096))}},
		{Default: allow, Rules: []policy.Rule{rule("read", allow, cond.Cond{})}},
		{Default: allow, Rules: []policy.Rule{rule("read", allow, slices.Repeat([]cond.Cond{is(0, 0)}, 7)...)}},
		{Default: allow, Rules: slices.Repeat([]policy.Rule{rule("read", allow)}, api.MaxRules+1)},
	} {
		for _, pair := range [][2]policy.Policy{{wrong, right}, {right, wrong}, {wrong, wrong}} {
			if one, e := stack.Merge(pair[0], pair[1]); e != api.ErrForm || !policy.Same(one, policy.Policy{}) {
				t.Errorf("P25.2: %s: %s, %d", brief(pair), brief(one), e)
			}
		}
	}
}

// of tells so many rules: each of another name, or all of one, with conditions that differ.
func of(many int, other bool) []policy.Rule {
	var l []policy.Rule
	for at := range many {
		if other {
			l = append(l, rule(fmt.Sprintf("n%d", at), log))
		} else {
			l = append(l, rule("read", log, is(0, uint64(at))))
		}
	}
	return l
}

// P25.2: ErrLong of more than 500 rules, or of a rule with more than 6 conditions; those that are left out do not count.
func TestMergeLong(t *testing.T) {
	conds := func(from, many int) []cond.Cond {
		var l []cond.Cond
		for at := range many {
			l = append(l, is(from, uint64(at)))
		}
		return l
	}
	for at, c := range []struct {
		p, q []policy.Rule
		many int // -1: too many
	}{
		{of(500, true), nil, 500},
		{nil, of(500, true), 500},
		{of(500, true), of(500, true), 500},
		{of(500, true), []policy.Rule{rule("n", log)}, -1},
		{[]policy.Rule{rule("n", log)}, of(500, true), -1},
		{[]policy.Rule{rule("n", log)}, of(499, true), 500},
		{of(499, false), nil, 500}, // and one without conditions
		{of(500, false), nil, -1},
		{nil, of(500, false), -1},
		{of(24, false), of(19, false), 25 * 20},
		{of(19, false), of(24, false), 25 * 20},
		{of(24, false), of(20, false), -1},
		{of(25, false), of(19, false), -1},
		{of(500, false), of(500, false), -1},
		{append([]policy.Rule{rule("read", log)}, of(499, false)...), nil, 1},
		{append([]policy.Rule{rule("read", log)}, of(499, false)...), []policy.Rule{rule("read", log)}, 1},
		{append([]policy.Rule{rule("read", log)}, of(499, false)...), of(499, false), 500},
		{[]policy.Rule{rule("read", log, conds(0, 6)...)}, []policy.Rule{rule("read", log)}, 3},
		{[]policy.Rule{rule("read", log, conds(0, 6)...)}, []policy.Rule{rule("read", log, conds(0, 5)...)}, 4},
		{[]policy.Rule{rule("read", log, conds(0, 6)...)}, []policy.Rule{rule("write", log, conds(1, 6)...)}, 4},
		{[]policy.Rule{rule("read", log, conds(0, 3)...)}, []policy.Rule{rule("read", log, conds(1, 3)...)}, 4},
		{[]policy.Rule{rule("read", log, conds(0, 3)...)}, []policy.Rule{rule("read", log, conds(1, 4)...)}, -1},
		{[]policy.Rule{rule("read", log, conds(0, 6)...)}, []policy.Rule{rule("read", log, is(1, 1))}, -1},
		{[]policy.Rule{rule("read", log), rule("read", log, conds(0, 6)...)}, []policy.Rule{rule("read", log, conds(1, 6)...)}, 2},
		{[]policy.Rule{rule("read", log), rule("read", log, conds(0, 6)...)}, []policy.Rule{rule("read", log), rule("read", log, conds(1, 6)...)}, 1},
	} {
		one, e := stack.Merge(policy.Policy{Default: allow, Rules: c.p}, policy.Policy{Default: allow, Rules: c.q})
		switch {
		case c.many < 0 && (e != api.ErrLong || !policy.Same(one, policy.Policy{})):
			t.Errorf("P25.2: %d: %s, %d", at, brief(one), e)
		case c.many >= 0 && (e != api.OK || len(one.Rules) != c.many || !policy.Right(one)):
			t.Errorf("P25.2: %d: %d rules, not %d, %d", at, len(one.Rules), c.many, e)
		}
	}
}

// chance tells numbers that are the same each time.
type chance uint64

func (c *chance) below(n int) int {
	*c = *c*6364136223846793005 + 1442695040888963407
	mixed := uint64(*c>>32) ^ uint64(*c>>47)
	return int((mixed * 0x9e3779b97f4a7c15 >> 33) % uint64(n))
}

// values tells few.
func values() []uint64 {
	return []uint64{0, 1, 2, 3, 1 << 32, 1<<32 + 1, math.MaxUint32, math.MaxUint64}
}

// names tells some of the built-in table, of all kinds.
func names() []string {
	return []string{"connect", "execve", "mmap2", "read", "open", "send"}
}

// policy tells one that may be, without conditions for names with a multiplexer.
func (c *chance) policy() policy.Policy {
	actions := []act.Action{kill, trap, errno(1), errno(2), trace(2), log, allow, allow, {Kind: 5}}
	p := policy.Policy{Default: actions[c.below(9)], X32: c.below(3) > 0}
	for range c.below(6) {
		r := rule(names()[c.below(6)], actions[c.below(9)])
		row, _, _ := systab.Find(systab.Builtin(), r.Name)
		for range c.below(4) {
			if row.Mux > 0 {
				continue
			}
			d := cond.Cond{Arg: c.below(2), Op: 1 + c.below(7), Value: values()[c.below(8)]}
			if d.Op == 7 {
				d.Mask = values()[c.below(8)]
				d.Value &= d.Mask
			}
			r.Conds = append(r.Conds, d)
		}
		p.Rules = append(p.Rules, r)
	}
	return p
}

// toldStricter tells the strictest of two actions: of one kind the later one.
func toldStricter(a, b act.Action) act.Action {
	if a.Kind < b.Kind {
		return a
	}
	return b
}

// toldRules tells the rules of a name that two policies' become, as the document tells them: all pairs, then without those behind one that has no conditions.
func toldRules(p, q policy.Policy, name string) []policy.Rule {
	var of [2][]policy.Rule
	for at, x := range []policy.Policy{p, q} {
		for _, r := range append(slices.Clone(x.Rules), rule(name, x.Default)) {
			if r.Name == name {
				of[at] = append(of[at], r)
			}
		}
	}
	var l []policy.Rule
	for n := range len(of[0]) * len(of[1]) {
		a, b := of[0][n/len(of[1])], of[1][n%len(of[1])]
		r := rule(name, toldStricter(a.Action, b.Action), a.Conds...)
		for _, d := range b.Conds {
			there := false
			for _, x := range r.Conds {
				there = there || x == d
			}
			if !there {
				r.Conds = append(slices.Clone(r.Conds), d)
			}
		}
		l = append(l, r)
	}
	for at, r := range l {
		if len(r.Conds) == 0 {
			return l[:at+1]
		}
	}
	return l
}

// toldMerge tells the policy that Merge ought to tell; false, if it would be too long.
func toldMerge(p, q policy.Policy) (policy.Policy, bool) {
	one := policy.Policy{Default: toldStricter(p.Default, q.Default), X32: p.X32 && q.X32}
	var met []string
	for _, r := range append(slices.Clone(p.Rules), q.Rules...) {
		if !slices.Contains(met, r.Name) {
			met = append(met, r.Name)
			one.Rules = append(one.Rules, toldRules(p, q, r.Name)...)
		}
	}
	return one, policy.Right(one)
}

// P25.2: over many policies, held against a second telling of the document's words.
func TestManyMerges(t *testing.T) {
	var c chance
	long, rules := 0, 0
	for range 3000 {
		p, q := c.policy(), c.policy()
		one, e := stack.Merge(p, q)
		want, ok := toldMerge(p, q)
		rules += len(one.Rules)
		switch {
		case ok && (e != api.OK || !policy.Same(one, want)):
			t.Fatalf("P25.2: %s and %s: %s, %d, not %s", brief(p), brief(q), brief(one), e, brief(want))
		case !ok:
			long++
			if e != api.ErrLong || !policy.Same(one, policy.Policy{}) {
				t.Fatalf("P25.2: %s and %s: %s, %d", brief(p), brief(q), brief(one), e)
			}
		}
	}
	if rules < 10000 || long > 500 {
		t.Errorf("%d rules, %d too long", rules, long)
	}
}

// records tells some of the names' numbers, and the probes of their rows.
func (c *chance) records() []data.Record {
	rows := slices.DeleteFunc(systab.Builtin(), func(r systab.Row) bool { return !slices.Contains(names(), r.Name) })
	l := judge.Probes(rows)
	for _, r := range slices.Clone(l) {
		for range 4 {
			r.Args = [6]uint64{values()[c.below(8)], values()[c.below(8)], 9, values()[c.below(8)]}
			r.Pointer = uint64(c.below(1 << 30))
			l = append(l, r)
		}
	}
	return append(l, record(x86, noCall), record(x86, 3*bit), record(arm64, noCall), record(riscv64, bit), record(9, 9))
}

// P25.3: the stack of two policies' programs tells what the program of the one policy tells.
func TestStackIsMerge(t *testing.T) {
	var c chance
	l := systab.Builtin()
	done := 0
	for range 150 {
		p, q := c.policy(), c.policy()
		a, e1 := build.Policy(p, l)
		b, e2 := build.Policy(q, l)
		one, e3 := stack.Merge(p, q)
		both, e4 := build.Policy(one, l)
		if e1 != api.OK || e2 != api.OK || e3 != api.OK || e4 != api.OK {
			continue
		}
		done++
		for _, r := range c.records() {
			w := data.Write(r, false)
			want, e := stack.Run([][]byte{a.Program, b.Program}, w[:])
			got, _ := build.Run(both.Program, w[:])
			if e != api.OK || got != want {
				t.Fatalf("P25.3: %#x: %#x, not %#x, of %s and %s", r, got, want, brief(p), brief(q))
			}
		}
	}
	if done < 30 {
		t.Errorf("%d pairs", done)
	}
}

// R4, R5: what is handed in stays as it is, the room behind its end, too; what is handed out is new each time, and the same.
func TestMemory(t *testing.T) {
	conds := []cond.Cond{is(0, 1), is(1, 2), is(2, 3), is(3, 4)}
	rules := []policy.Rule{rule("read", log, conds[:2]...), rule("write", trap), rule("read", trap, conds[:1]...), rule("open", kill)}
	other := []policy.Rule{rule("read", kill, conds[1:3]...), rule("brk", log), rule("dup", log)}
	wasConds, wasRules, wasOther := slices.Clone(conds), slices.Clone(rules), slices.Clone(other)
	p, q := policy.Policy{Default: allow, Rules: rules[:3]}, policy.Policy{Default: log, Rules: other[:2]}
	first, _ := stack.Merge(p, q)
	second, e := stack.Merge(p, q)
	if e != api.OK || !policy.Same(first, second) {
		t.Errorf("R5: %s, not %s", brief(first), brief(second))
	}
	for _, r := range first.Rules {
		clear(r.Conds[:cap(r.Conds)])
	}
	clear(first.Rules[:cap(first.Rules)])
	third, _ := stack.Merge(p, q)
	if !policy.Same(second, third) {
		t.Error("R4: what was handed out is not new")
	}
	sameRule := func(a, b policy.Rule) bool {
		return policy.Same(policy.Policy{Rules: []policy.Rule{a}}, policy.Policy{Rules: []policy.Rule{b}})
	}
	if !slices.Equal(conds, wasConds) || !slices.EqualFunc(rules, wasRules, sameRule) || !slices.EqualFunc(other, wasOther, sameRule) {
		t.Error("R4: what was handed in has changed")
	}
	for _, a := range second.Rules {
		for _, b := range third.Rules {
			if len(a.Conds) > 0 && len(b.Conds) > 0 && &a.Conds[0] == &b.Conds[0] {
				t.Error("R4: two answers share memory")
			}
		}
	}
	actions := []act.Action{allow, errno(1), kill}
	programs := [][]byte{ret(toLog), ret(toAllow), ret(toKill)}
	for range 2 {
		if a, e := stack.Strictest(actions[:2]); a != errno(1) || e != api.OK {
			t.Errorf("R5: %v, %d", a, e)
		}
		tells(t, programs[:2], data.Record{}, toLog)
	}
	if !slices.Equal(actions, []act.Action{allow, errno(1), kill}) || !slices.EqualFunc(programs, [][]byte{ret(toLog), ret(toAllow), ret(toKill)}, slices.Equal) {
		t.Error("R4: what was handed in has changed")
	}
}
