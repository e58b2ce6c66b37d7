package learn_test

import (
	"fmt"
	"math"
	"slices"
	"testing"

	"strainer/act"
	"strainer/api"
	"strainer/build"
	"strainer/cond"
	"strainer/data"
	"strainer/learn"
	"strainer/model"
	"strainer/mux"
	"strainer/policy"
	"strainer/systab"
)

const (
	bit    = 0x40000000
	noCall = 0xffffffff
)

// The tokens.
const (
	x86     = 0xc000003e
	i386    = 0x40000003
	arm64   = 0xc00000b7
	riscv64 = 0xc00000f3
)

// Actions that the tests put.
var (
	kill  = act.Action{Kind: 1}
	log   = act.Action{Kind: 7}
	allow = act.Action{Kind: 8}
)

// brief tells a thing's beginning.
func brief(a any) string { return fmt.Sprintf("%.600s", fmt.Sprintf("%+v", a)) }

// record tells a record of a token, a number, and arguments.
func record(arch, number uint32, args ...uint64) data.Record {
	r := data.Record{Number: number, Arch: arch}
	copy(r.Args[:], args)
	return r
}

// row tells one of a name that is absent everywhere.
func row(name string) systab.Row { return systab.Row{Name: name, Numbers: [5]int{-1, -1, -1, -1, -1}} }

// learns holds Policy to the own text of what is learnt, of the built-in table and the default kill.
func learns(t *testing.T, close bool, want string, records ...data.Record) {
	t.Helper()
	p, e := learn.Policy(systab.Builtin(), records, kill, close)
	text, _ := policy.Print(p)
	if e != api.OK || text != "default kill\n"+want {
		t.Errorf("P26.1: %#x: %q, %d, not %q", records, text, e, want)
	}
}

// counts holds Counts to names and how many there are, of the built-in table.
func counts(t *testing.T, records []data.Record, want ...learn.Count) {
	t.Helper()
	l, e := learn.Counts(systab.Builtin(), records)
	if e != api.OK || !slices.Equal(l, want) {
		t.Errorf("P26.1: %#x: %v, %d, not %v", records, l, e, want)
	}
}

// P26.1: the document's example.
func TestExample(t *testing.T) {
	learns(t, false, "read allow\n", record(x86, 0))
	learns(t, true, "read allow if a0 == 0 and a1 == 0 and a2 == 0 and a3 == 0 and a4 == 0 and a5 == 0\n", record(x86, 0))
	learns(t, true, "read allow if a0 == 1 and a1 == 2 and a2 == 3 and a3 == 4 and a4 == 5 and a5 == 18446744073709551615\n", record(x86, 0, 1, 2, 3, 4, 5, math.MaxUint64))
}

// P26.1: a rule for each name that a record has, once, rising; none without a name.
func TestNames(t *testing.T) {
	for _, close := range []bool{false, true} {
		learns(t, close, "")
		learns(t, close, "", record(x86, 999), record(7, 0), data.Record{}, record(i386, 102), record(i386, 117, 99), record(x86, noCall), record(i386, 102, 1<<32), record(arm64, 2))
		learns(t, close, "", record(x86, bit+999), record(x86, 3*bit), record(x86, bit+16))
	}
	learns(t, false, "brk allow\nread allow\nwrite allow\n", record(x86, 1), record(riscv64, 63), record(arm64, 214), record(i386, 4), record(x86, 1), record(9, 9))
	learns(t, false, "connect allow\nmsgget allow\nsend allow\n", record(i386, 117, 13), record(i386, 102, 9), record(i386, 102, 1<<40+3))
	learns(t, false, "getuid allow\nptrace allow\n", record(x86, 102, 3), record(arm64, 117, 13))
}

// P26.1: x32 is let in, if one of its records has a name.
func TestX32(t *testing.T) {
	for _, close := range []bool{false, true} {
		learns(t, close, "x32 on\nconnect allow\n", record(x86, bit+42))
		learns(t, close, "connect allow\n", record(x86, 42), record(x86, bit+1000))
		learns(t, close, "connect allow\n", record(x86, 42), record(x86, noCall), record(i386, bit+42), record(arm64, bit))
	}
	learns(t, false, "x32 on\nioctl allow\nread allow\nwrite allow\n", record(x86, 1), record(x86, bit+514), record(x86, 0))
	learns(t, false, "x32 on\nread allow\n", record(x86, bit), record(x86, 0), record(x86, bit+999))
}

// P26.1: closely: what is the same in all records of a name, as their ABIs see it, rising by argument.
func TestClose(t *testing.T) {
	learns(t, true, "read allow if a0 == 1 and a2 == 3 and a4 == 5\n", record(x86, 0, 1, 2, 3, 4, 5, 6), record(x86, 0, 1, 3, 3, 5, 5, 7))
	learns(t, true, "read allow\n", record(x86, 0, 1, 2, 3, 4, 5, 6), record(x86, 0, 2, 3, 4, 5, 6, 7))
	// What was not the same once is not, though it is again.
	learns(t, true, "read allow if a1 == 0 and a2 == 0 and a3 == 0 and a4 == 0 and a5 == 0\n", record(x86, 0, 1), record(x86, 0, 2), record(x86, 0, 2), record(x86, 0, 1))
	learns(t, true, "read allow if a1 == 0 and a2 == 0 and a3 == 0 and a4 == 0 and a5 == 0\n", record(x86, 0, 2), record(x86, 0, 2), record(x86, 0, 1))
	// Of a 0 ahead of others, too.
	learns(t, true, "read allow if a1 == 0 and a2 == 0 and a3 == 0 and a4 == 0 and a5 == 0\n", record(x86, 0), record(x86, 0, 1))
	learns(t, true, "read allow if a1 == 0 and a2 == 0 and a3 == 0 and a4 == 0 and a5 == 0\n", record(x86, 0, 1), record(x86, 0))
	// i386 sees lower halves alone.
	learns(t, true, "read allow if a0 == 1 and a1 == 4294967295 and a2 == 0 and a3 == 0 and a4 == 0 and a5 == 0\n", record(i386, 3, 1<<32+1, math.MaxUint64), record(x86, 0, 1, math.MaxUint32))
	learns(t, true, "read allow if a1 == 4294967295 and a2 == 0 and a3 == 0 and a4 == 0 and a5 == 0\n", record(x86, 0, 1<<32+1, math.MaxUint32), record(i386, 3, 1<<32+1, math.MaxUint64))
	learns(t, true, "read allow if a0 == 1 and a1 == 2 and a2 == 0 and a3 == 0 and a4 == 0 and a5 == 0\n", record(i386, 3, 1, 2), record(i386, 3, 1<<63+1, 2))
	learns(t, true, "x32 on\nread allow if a0 == 4294967297 and a1 == 0 and a2 == 0 and a3 == 0 and a4 == 0 and a5 == 0\n", record(x86, bit, 1<<32+1), record(arm64, 63, 1<<32+1))
	// Each name by itself, where the record came from aside.
	from := record(x86, 1, 7)
	from.Pointer = 5
	learns(t, true, "read allow if a0 == 8 and a1 == 0 and a2 == 0 and a3 == 0 and a4 == 0 and a5 == 0\nwrite allow if a0 == 7 and a1 == 0 and a2 == 0 and a3 == 0 and a4 == 0 and a5 == 0\n", from, record(x86, 0, 8), record(x86, 1, 7), record(x86, 999, 9))
}

// P26.1: closely a name that has a multiplexer has no conditions, however it was called.
func TestCloseMuxed(t *testing.T) {
	learns(t, true, "connect allow\n", record(i386, 102, 3))
	learns(t, true, "connect allow\n", record(x86, 42, 3))
	learns(t, true, "connect allow\nsemop allow\n", record(arm64, 203, 1), record(riscv64, 203, 1), record(x86, 65))
	learns(t, true, "recv allow\nwaitpid allow if a0 == 1 and a1 == 0 and a2 == 0 and a3 == 0 and a4 == 0 and a5 == 0\n", record(i386, 102, 10), record(i386, 7, 1))
}

// P26.1: the default is the one that is handed in, of each kind; a name is allowed, if that is the default, too.
func TestDefaults(t *testing.T) {
	for _, otherwise := range []act.Action{kill, {Kind: 2}, {Kind: 3}, {Kind: 4, Number: 4095}, {Kind: 5}, {Kind: 6, Number: 65535}, log, allow} {
		p, e := learn.Policy(systab.Builtin(), []data.Record{record(x86, 0)}, otherwise, false)
		want := policy.Policy{Default: otherwise, Rules: []policy.Rule{{Name: "read", Action: allow}}}
		if e != api.OK || !policy.Same(p, want) {
			t.Errorf("P26.1: %v: %s, %d", otherwise, brief(p), e)
		}
	}
}

// P26.1: how many records have each name, rising by name.
func TestCounts(t *testing.T) {
	counts(t, nil)
	counts(t, []data.Record{})
	counts(t, []data.Record{record(x86, 999), {}, record(i386, 102), record(x86, noCall)})
	counts(t, []data.Record{record(x86, 0)}, learn.Count{Name: "read", Many: 1})
	counts(t, []data.Record{record(x86, 1), record(x86, 0), record(x86, bit), record(i386, 102, 3), record(i386, 3), record(7, 3), record(arm64, 203), record(riscv64, 63, 5), record(x86, 999), record(i386, 362)},
		learn.Count{Name: "connect", Many: 3}, learn.Count{Name: "read", Many: 4}, learn.Count{Name: "write", Many: 1})
	counts(t, slices.Repeat([]data.Record{record(x86, 1), record(x86, 2), record(x86, 1)}, 1000), learn.Count{Name: "open", Many: 1000}, learn.Count{Name: "write", Many: 2000})
}

// P26.1, R2: ErrState of a table that may not be ahead of ErrRange of an action; nothing beside.
func TestWrong(t *testing.T) {
	low, mux, odd := row("read"), row("read"), row("read")
	low.Numbers[0], mux.Numbers[2], odd.Mux = -2, 102, 3
	records := []data.Record{record(x86, 0), record(x86, 1)}
	actions := []act.Action{{}, {Kind: 9}, {Kind: -1}, {Kind: 1, Number: 1}, {Kind: 4, Number: 4096}, {Kind: 4, Number: -1}, {Kind: 6, Number: 65536}, {Kind: math.MaxInt}}
	fails := func(l []systab.Row, a act.Action, want api.Errno) {
		t.Helper()
		for n := range 3 {
			for _, close := range []bool{false, true} {
				if p, e := learn.Policy(l, records[:n], a, close); e != want || !policy.Same(p, policy.Policy{}) {
					t.Errorf("P26.1: %s, %v: %s, %d, not %d", brief(l), a, brief(p), e, want)
				}
			}
		}
	}
	for _, l := range [][]systab.Row{{row("B")}, {row("read"), row("open")}, {row("read"), row("read")}, {low}, {mux}, {odd}, {{Name: "open"}, {Name: "read"}}, slices.Repeat([]systab.Row{row("read")}, api.MaxRows+1)} {
		for _, a := range append(actions, kill) {
			fails(l, a, api.ErrState)
		}
		if c, e := learn.Counts(l, records); e != api.ErrState || len(c) > 0 {
			t.Errorf("P26.1: %s: %v, %d", brief(l), c, e)
		}
	}
	for _, a := range actions {
		fails(systab.Builtin(), a, api.ErrRange)
		fails(nil, a, api.ErrRange)
	}
	// A table of no rows may be: no record has a name.
	if p, e := learn.Policy(nil, records, log, true); e != api.OK || !policy.Same(p, policy.Policy{Default: log}) {
		t.Errorf("P26.1: %s, %d", brief(p), e)
	}
	if c, e := learn.Counts([]systab.Row{}, records); e != api.OK || len(c) > 0 {
		t.Errorf("P26.1: %v, %d", c, e)
	}
}

// chance tells numbers that are the same each time.
type chance uint64

func (c *chance) below(n int) int {
	*c = *c*6364136223846793005 + 1442695040888963407
	mixed := uint64(*c>>32) ^ uint64(*c>>47)
	return int((mixed * 0x9e3779b97f4a7c15 >> 33) % uint64(n))
}

// value tells one of few numbers, 0 and those of multiplexers among them.
func (c *chance) value() uint64 {
	return []uint64{0, 0, 0, 1, 3, 9, 13, 1 << 32, 1<<32 + 3, math.MaxUint64}[c.below(10)]
}

// record tells one of a row's number, or near it, or of a multiplexer, seldom of no token.
func (c *chance) record(l []systab.Row) data.Record {
	archs := []uint32{x86, x86, x86, i386, i386, arm64, riscv64, 5}
	r := record(archs[c.below(8)], uint32(l[c.below(len(l))].Numbers[c.below(5)]))
	switch c.below(8) {
	case 0:
		r.Number = []uint32{0, 999, bit, 3 * bit, noCall, 3, 63}[c.below(7)]
	case 1:
		r.Number = []uint32{102, 117}[c.below(2)]
	case 2:
		r.Number |= bit
	}
	r.Pointer = uint64(c.below(1 << 30))
	for at := range r.Args {
		if c.below(3) == 0 {
			r.Args[at] = c.value()
		}
	}
	return r
}

// toldPolicy tells the policy that ought to be learnt, name by name, as the document tells it.
func toldPolicy(l []systab.Row, records []data.Record, otherwise act.Action, close bool) (policy.Policy, []learn.Count) {
	p := policy.Policy{Default: otherwise}
	var many []learn.Count
	for _, row := range l {
		var seen [][6]uint64
		for _, r := range records {
			c := mux.Of(l, r)
			if c.Name != row.Name {
				continue
			}
			p.X32 = p.X32 || c.ABI == api.X32
			for at := range r.Args {
				if c.ABI == api.I386 {
					r.Args[at] %= 1 << 32
				}
			}
			seen = append(seen, r.Args)
		}
		if len(seen) == 0 {
			continue
		}
		one := policy.Rule{Name: row.Name, Action: allow}
		for arg := range 6 {
			differs := func(args [6]uint64) bool { return args[arg] != seen[0][arg] }
			if close && row.Mux == 0 && !slices.ContainsFunc(seen, differs) {
				one.Conds = append(one.Conds, cond.Cond{Arg: arg, Op: 1, Value: seen[0][arg]})
			}
		}
		p.Rules = append(p.Rules, one)
		many = append(many, learn.Count{Name: row.Name, Many: len(seen)})
	}
	return p, many
}

// P26.1, P26.2: over many records, held against a second telling of the document's words; each record that has a name is allowed, by the program, too, and a name that none has gets the default.
func TestManyRecords(t *testing.T) {
	var c chance
	asked, allowed, others := 0, 0, 0
	for at := range 150 {
		l := systab.Builtin()
		few := 1 + c.below(40)
		l = slices.DeleteFunc(l, func(systab.Row) bool { return c.below(80) > few })
		if len(l) == 0 {
			continue
		}
		var records []data.Record
		for range c.below(120) {
			records = append(records, c.record(l))
		}
		otherwise := []act.Action{kill, log, {Kind: 4, Number: 9}}[at%3]
		close := at%2 == 0
		p, e1 := learn.Policy(l, records, otherwise, close)
		many, e2 := learn.Counts(l, records)
		wantPolicy, wantMany := toldPolicy(l, records, otherwise, close)
		if e1 != api.OK || e2 != api.OK || !policy.Same(p, wantPolicy) || !slices.Equal(many, wantMany) {
			t.Fatalf("P26.1: %s, %d, %v, %d, not %s, %v", brief(p), e1, many, e2, brief(wantPolicy), wantMany)
		}
		for _, r := range p.Rules {
			asked += len(r.Conds)
		}
		o, e := build.Policy(p, l)
		if e != api.OK {
			t.Fatalf("P26.2: %s: %d", brief(p), e)
		}
		for _, r := range append(records, c.record(systab.Builtin()), c.record(systab.Builtin())) {
			call := mux.Of(l, r)
			judged, _ := model.Judge(p, l, r)
			b := data.Write(r, false)
			if code, e := build.Run(o.Program, b[:]); e != api.OK || code != judged {
				t.Fatalf("P26.2: %#x: %#x, %d, not %#x", r, code, e, judged)
			}
			met := slices.ContainsFunc(many, func(c learn.Count) bool { return c.Name == call.Name })
			code, _ := act.Code(otherwise)
			switch {
			case call.Some && call.Name != "" && slices.Contains(records, r):
				allowed++
				if judged != 0x7fff0000 {
					t.Fatalf("P26.2: %#x: %#x is not allowed", r, judged)
				}
			case call.Some && !met && (call.ABI != api.X32 || p.X32):
				others++
				if judged != code {
					t.Fatalf("P26.2: %#x: %#x is not the default", r, judged)
				}
			}
		}
	}
	if asked < 500 || allowed < 1000 || others < 50 {
		t.Errorf("%d conditions, %d allowed, %d others", asked, allowed, others)
	}
}

// R5: what is learnt does not hang on the records' order, nor on how often each stands there.
func TestOrder(t *testing.T) {
	c, l := chance(9), systab.Builtin()
	var records []data.Record
	for range 200 {
		records = append(records, c.record(l))
	}
	for _, close := range []bool{false, true} {
		want, _ := learn.Policy(l, records, kill, close)
		back := slices.Clone(records)
		slices.Reverse(back)
		for _, other := range [][]data.Record{records, back, slices.Concat(records, back), slices.Concat(records[70:], records[:70])} {
			if p, e := learn.Policy(l, other, kill, close); e != api.OK || !policy.Same(p, want) {
				t.Errorf("R5: %s, %d, not %s", brief(p), e, brief(want))
			}
		}
	}
}

// R1: the greatest table: a rule for each of its names.
func TestGreatest(t *testing.T) {
	var l []systab.Row
	var records []data.Record
	for at := range api.MaxRows {
		r := row(fmt.Sprintf("n%03d", at))
		r.Numbers[3] = at
		l = append(l, r)
		records = append(records, record(arm64, uint32(api.MaxRows-1-at), uint64(at)))
	}
	p, e := learn.Policy(l, records, kill, true)
	if e != api.OK || len(p.Rules) != api.MaxRows || !policy.Right(p) || len(p.Rules[399].Conds) != 6 {
		t.Errorf("P26.1: %d rules, %d", len(p.Rules), e)
	}
	if many, e := learn.Counts(l, records); e != api.OK || len(many) != api.MaxRows || many[0] != (learn.Count{Name: "n000", Many: 1}) {
		t.Errorf("P26.1: %d names, %d", len(many), e)
	}
}

// R4: what is handed in stays as it is, the room behind its end, too; what is handed out is new each time.
func TestMemory(t *testing.T) {
	table := append(systab.Builtin(), row("z"))
	records := []data.Record{record(x86, 1, 1), record(x86, 0, 2), record(i386, 4, 1<<32+1), record(x86, 2)}
	wasTable, wasRecords := slices.Clone(table), slices.Clone(records)
	l, in := table[:len(table)-1], records[:3]
	first, _ := learn.Policy(l, in, kill, true)
	second, _ := learn.Policy(l, in, kill, true)
	one, _ := learn.Counts(l, in)
	other, _ := learn.Counts(l, in)
	if !policy.Same(first, second) || !slices.Equal(one, other) {
		t.Error("R5: not the same")
	}
	for _, r := range first.Rules {
		clear(r.Conds[:cap(r.Conds)])
	}
	clear(first.Rules[:cap(first.Rules)])
	clear(one[:cap(one)])
	third, _ := learn.Policy(l, in, kill, true)
	last, _ := learn.Counts(l, in)
	if !policy.Same(second, third) || !slices.Equal(other, last) {
		t.Error("R4: what was handed out is not new")
	}
	if !slices.Equal(table, wasTable) || !slices.Equal(records, wasRecords) {
		t.Error("R4: what was handed in has changed")
	}
}
