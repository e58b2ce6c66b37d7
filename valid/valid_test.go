package valid_test

import (
	"fmt"
	"math"
	"slices"
	"testing"

	"strainer/act"
	"strainer/api"
	"strainer/cond"
	"strainer/policy"
	"strainer/systab"
	"strainer/valid"
)

// Actions that the tests put.
var (
	kill  = act.Action{Kind: 1}
	log   = act.Action{Kind: 7}
	allow = act.Action{Kind: 8}
)

// actions tells some that may be, of all kinds.
func actions() []act.Action {
	return []act.Action{kill, {Kind: 2}, {Kind: 3}, {Kind: 4}, {Kind: 4, Number: 4095}, {Kind: 5}, {Kind: 6, Number: 65535}, log, allow}
}

func rule(name string, a act.Action, l ...cond.Cond) policy.Rule {
	return policy.Rule{Name: name, Action: a, Conds: l}
}

// of tells a policy of rules.
func of(l ...policy.Rule) policy.Policy { return policy.Policy{Default: kill, Rules: l} }

// is tells the condition that argument 0 is a value.
func is(value uint64) cond.Cond { return cond.Cond{Op: 1, Value: value} }

// masked tells the condition that argument 0 is a value in the bits of a mask.
func masked(mask, value uint64) cond.Cond { return cond.Cond{Op: 7, Mask: mask, Value: value} }

// many tells a list of the same thing, so many times.
func many[T any](n int, of T) []T { return slices.Repeat([]T{of}, n) }

// brief tells a policy's beginning, with a fault.
func brief(p policy.Policy) string { return fmt.Sprintf("%.400s", fmt.Sprintf("%+v", p)) }

// checks holds Check to an answer.
func checks(t *testing.T, p policy.Policy, l []systab.Row, number int, want api.Errno) {
	t.Helper()
	if n, e := valid.Check(p, l); n != number || e != want {
		t.Errorf("Check of %s, by %d rows: %d, %d; not %d, %d", brief(p), len(l), n, e, number, want)
	}
}

// parsed tells the policy of a text.
func parsed(t *testing.T, text string) policy.Policy {
	t.Helper()
	p, at, e := policy.Parse(text)
	if e != api.OK {
		t.Fatalf("Parse of %q: %d, %d", text, at, e)
	}
	return p
}

// row tells one of a name that is absent everywhere.
func row(name string) systab.Row { return systab.Row{Name: name, Numbers: [5]int{-1, -1, -1, -1, -1}} }

// wrongTables goes through tables that may not be, each in another way; all have the name read.
func wrongTables() [][]systab.Row {
	low := row("read")
	low.Numbers[0] = -2
	mux := row("read")
	mux.Numbers[2] = 102
	return [][]systab.Row{
		{row("READ"), row("read")},
		{row("read"), row("x32")},
		{row("read"), row("open")},
		{row("read"), row("read")},
		{low},
		{mux},
		{{Name: "read", Numbers: [5]int{-1, -1, -1, -1, -1}, Sub: 1}},
		{{Name: "open"}, {Name: "read"}},
		many(api.MaxRows+1, row("read")),
	}
}

// wrongPolicies goes through policies that may not be, each in another way.
func wrongPolicies() []policy.Policy {
	return []policy.Policy{
		{},
		{Default: act.Action{Kind: 9}},
		{Default: act.Action{Kind: 1, Number: 1}, Rules: []policy.Rule{rule("read", allow)}},
		of(rule("", allow)),
		of(rule("READ", allow)),
		of(rule("default", allow)),
		of(rule("x32", allow)),
		of(rule("read", act.Action{})),
		of(rule("read", act.Action{Kind: 4, Number: 4096})),
		of(rule("read", allow, cond.Cond{})),
		of(rule("read", allow, cond.Cond{Op: 8})),
		of(rule("read", allow, cond.Cond{Arg: 6, Op: 1})),
		of(rule("read", allow, cond.Cond{Op: 1, Mask: 1})),
		of(rule("read", allow, many(7, is(1))...)),
		of(many(501, rule("read", allow))...),
		// What is wrong counts, wherever it stands.
		of(rule("nobody", allow), rule("read", allow, masked(1, 2)), rule("read", allow), rule("read", allow), rule("Read", allow)),
		of(rule("read", allow), rule("read", allow), rule("read", allow, is(1), cond.Cond{Op: -1})),
	}
}

// P15.1: valid policies, by hand.
func TestValid(t *testing.T) {
	l := systab.Builtin()
	for _, text := range []string{
		"default kill",
		"default allow\nx32 on",
		"default kill\nread allow\nwrite allow",
		"default kill\nwrite allow\nread allow\nopen errno 13 if a1 & 3 == 0 and a2 > 5",
		"default kill\naccept allow\nwritev allow\nriscv_flush_icache log\nrecv kill\nsend log if a0 == 1",
		// Beside the mask nothing is asked, and no other operator has one.
		"default kill\nread allow if a0 & 3 == 2",
		"default kill\nread allow if a0 & 3 == 3 and a0 & 0 == 0 and a5 & 0xffffffffffffffff == 0xffffffffffffffff",
		"default kill\nread allow if a0 & 0x8000000000000000 == 0x8000000000000000",
		"default kill\nread allow if a0 == 3 and a0 != 3 and a0 < 3 and a0 <= 3 and a0 > 3 and a0 >= 3",
		// Another name, another argument, another operator, another mask, another value, one more, one less.
		"default kill\nread allow if a0 == 1\nwrite allow if a0 == 1\nopen allow if a0 == 1",
		"default kill\nread allow if a0 == 1\nread allow if a1 == 1\nread allow if a0 == 2\nread allow if a0 != 1\nread allow if a0 >= 1",
		"default kill\nread allow if a0 & 1 == 1\nread allow if a0 & 3 == 1\nread allow if a0 & 3 == 2",
		"default kill\nread allow if a0 == 1\nread allow if a0 == 4294967297\nread allow if a0 & 1 == 1\nread allow if a0 & 4294967297 == 1",
		"default kill\nread log if a0 == 1\nread allow if a0 == 1 and a1 == 2\nread kill if a0 == 1 and a1 == 2 and a2 == 3",
		"default kill\nread log if a0 == 1 and a1 == 2\nread allow if a0 == 1\nread allow if a1 == 2",
		"default kill\nread log if a0 == 1 and a1 == 2\nread allow if a0 == 2 and a1 == 1",
		"default kill\nread log if a0 == 1 and a1 == 2\nread allow if a1 == 2 and a2 == 3\nread allow if a2 == 3 and a0 == 1",
		"default kill\nread log if a0 == 0\nread log if a0 == 0 and a1 == 0\nread log if a0 & 0 == 0",
		// One without conditions may stand behind all others.
		"default kill\nread log if a0 == 1\nread allow",
		"default kill\nread log if a0 == 1\nwrite log\nread kill if a0 == 2\nread allow",
		// What they mean is not asked: these ask the same, or nothing.
		"default kill\nread log if a0 < 5\nread allow if a0 <= 4",
		"default kill\nread log if a0 >= 0\nread allow if a0 == 1\nread kill if a0 < 0",
		"default kill\nread log if a0 == 1\nread allow if a0 & 0xffffffffffffffff == 1",
		"default kill\nread log if a0 == 1\nread allow if a0 == 1 and a0 >= 1",
	} {
		checks(t, parsed(t, text), l, 0, api.OK)
	}
}

// P15.1: the first rule that is wrong, by hand; the document's example first.
func TestInvalid(t *testing.T) {
	l := systab.Builtin()
	for text, want := range map[string]struct {
		number int
		e      api.Errno
	}{
		"default kill\nread allow\nread allow":                                                                     {1, api.ErrTwice},
		"default kill\nread allow\nread log":                                                                       {1, api.ErrTwice},
		"default kill\nnobody allow":                                                                               {0, api.ErrName},
		"default kill\nread allow\nnope allow":                                                                     {1, api.ErrName},
		"default kill\nread allow\nrea allow":                                                                      {1, api.ErrName},
		"default kill\nread allow\nread_ allow if a0 == 1":                                                         {1, api.ErrName},
		"default kill\na allow":                                                                                    {0, api.ErrName},
		"default kill\nread allow if a0 & 2 == 3":                                                                  {0, api.ErrRange},
		"default kill\nread allow if a0 & 0 == 1":                                                                  {0, api.ErrRange},
		"default kill\nread allow if a0 & 3 == 4":                                                                  {0, api.ErrRange},
		"default kill\nread allow if a0 & 0x7fffffffffffffff == 0x8000000000000000":                                {0, api.ErrRange},
		"default kill\nread allow if a0 & 0xffffffff == 0x100000000":                                               {0, api.ErrRange},
		"default kill\nwrite log\nread allow if a0 == 1 and a1 & 3 == 3 and a2 & 1 == 2":                           {1, api.ErrRange},
		"default kill\nread allow if a0 & 1 == 2 and a1 & 3 == 3":                                                  {0, api.ErrRange},
		"default kill\nread allow\nread log if a0 == 1":                                                            {1, api.ErrTwice},
		"default kill\nread allow\nwrite allow\nread log if a0 == 1 and a1 == 2":                                   {2, api.ErrTwice},
		"default kill\nread log if a0 == 1\nread allow\nread kill if a0 == 2":                                      {2, api.ErrTwice},
		"default kill\nread log if a0 == 1\nread log if a0 == 1":                                                   {1, api.ErrTwice},
		"default kill\nread log if a0 == 1\nwrite allow\nread kill if a0 == 2\nread errno 1 if a0 == 1":            {3, api.ErrTwice},
		"default kill\nread log if a0 == 1 and a1 == 2\nread allow if a1 == 2 and a0 == 1":                         {1, api.ErrTwice},
		"default kill\nread log if a0 == 1 and a1 == 2\nread allow if a1 == 2 and a0 == 1 and a1 == 2":             {1, api.ErrTwice},
		"default kill\nread log if a0 == 1 and a0 == 1 and a1 == 2 and a0 == 1\nread allow if a1 == 2 and a0 == 1": {1, api.ErrTwice},
		"default kill\nread log if a0 == 1 and a0 == 1\nread allow if a0 == 1":                                     {1, api.ErrTwice},
		"default kill\nread log if a0 == 1\nread allow if a0 == 1 and a0 == 1":                                     {1, api.ErrTwice},
		"default kill\nread log if a0 & 3 == 1 and a0 & 1 == 1\nread allow if a0 & 0x1 == 1 and a0 & 0x3 == 1":     {1, api.ErrTwice},
		"default kill\nread log if a0 == 0\nread log if a1 == 0\nread log if a1 == 0 and a1 == 0":                  {2, api.ErrTwice},
	} {
		checks(t, parsed(t, text), l, want.number, want.e)
	}
}

// P15.1: conditions that have all fields but one alike, in all orders, and each once or twice.
func TestOrders(t *testing.T) {
	l := systab.Builtin()
	for _, c := range [][]cond.Cond{
		{{Arg: 0, Op: 1}, {Arg: 1, Op: 1}, {Arg: 5, Op: 1}},
		{{Op: 1}, {Op: 2}, {Op: 6}},
		{{Op: 7}, {Op: 7, Mask: 1}, {Op: 7, Mask: math.MaxUint64}},
		{{Op: 6}, {Op: 6, Value: 1}, {Op: 6, Value: math.MaxUint64}},
		{{Op: 7, Mask: math.MaxUint64}, {Op: 7, Mask: math.MaxUint64, Value: 1 << 32}, {Op: 7, Mask: math.MaxUint64, Value: math.MaxUint64}},
	} {
		orders := [][]cond.Cond{c, {c[0], c[2], c[1]}, {c[1], c[0], c[2]}, {c[1], c[2], c[0]}, {c[2], c[0], c[1]}, {c[2], c[1], c[0]}, slices.Concat(c, c), {c[2], c[0], c[2], c[1], c[0]}}
		parts := [][]cond.Cond{c[:1], c[1:2], c[2:], c[:2], c[1:], {c[2], c[0]}}
		for _, a := range orders {
			for _, b := range orders {
				checks(t, of(rule("read", log, a...), rule("read", allow, b...)), l, 1, api.ErrTwice)
				checks(t, of(rule("read", log, a...), rule("write", allow, b...)), l, 0, api.OK)
			}
			for _, b := range parts {
				checks(t, of(rule("read", log, a...), rule("read", allow, b...)), l, 0, api.OK)
				checks(t, of(rule("read", log, b...), rule("read", allow, a...)), l, 0, api.OK)
			}
		}
	}
}

// P15.1, R2: a policy that may not be counts ahead of a table that may not, that ahead of the rules; both are told with 0.
func TestMayNotBe(t *testing.T) {
	tables := wrongTables()
	for at, p := range wrongPolicies() {
		if policy.Right(p) {
			t.Fatalf("%s may be", brief(p))
		}
		checks(t, p, systab.Builtin(), 0, api.ErrForm)
		checks(t, p, nil, 0, api.ErrForm)
		checks(t, p, tables[at%len(tables)], 0, api.ErrForm)
	}
	for at, l := range tables {
		if _, e := systab.Right(l); e == api.OK {
			t.Fatalf("table %d may be", at)
		}
		for _, p := range []policy.Policy{of(), of(rule("read", allow)), of(rule("read", allow), rule("nobody", allow)), of(rule("read", allow), rule("read", allow, masked(0, 1)))} {
			checks(t, p, l, 0, api.ErrState)
		}
	}
}

// P15.1, R2: the first rule that is wrong counts, and its first error.
func TestOrder(t *testing.T) {
	l := systab.Builtin()
	name, bits, twice := rule("nobody", allow), rule("write", allow, is(1), masked(1, 2)), rule("read", allow)
	for _, c := range []struct {
		rule policy.Rule
		e    api.Errno
	}{{name, api.ErrName}, {bits, api.ErrRange}, {twice, api.ErrTwice}} {
		for _, behind := range [][]policy.Rule{nil, {name, bits, twice}, {bits, twice, name}, {twice, name, bits}} {
			checks(t, of(append([]policy.Rule{rule("read", log), c.rule}, behind...)...), l, 1, c.e)
			checks(t, of(append([]policy.Rule{rule("open", log), rule("read", log, is(1)), rule("read", kill), c.rule}, behind...)...), l, 3, c.e)
		}
	}
	// A rule with more than one error.
	checks(t, of(rule("nobody", allow, masked(1, 2))), l, 0, api.ErrName)
	checks(t, of(rule("nobody", allow), rule("nobody", allow, masked(1, 2))), l, 0, api.ErrName)
	checks(t, of(rule("read", allow), rule("read", allow, masked(1, 2))), l, 1, api.ErrRange)
	checks(t, of(rule("read", allow), rule("read", allow, is(1), masked(0, math.MaxUint64))), l, 1, api.ErrRange)
}

// P15.1: which names there are is the table's alone, whatever numbers they have.
func TestNames(t *testing.T) {
	l := systab.Builtin()
	var all []policy.Rule
	for at, r := range l {
		checks(t, of(rule(r.Name, allow)), l, 0, api.OK)
		checks(t, of(rule(r.Name, allow)), l[at:at+1], 0, api.OK)
		checks(t, of(rule(r.Name, allow)), l[:at], 0, api.ErrName)
		checks(t, of(rule(r.Name, allow)), l[at+1:], 0, api.ErrName)
		all = append(all, rule(r.Name, allow))
	}
	checks(t, of(all...), l, 0, api.OK)
	checks(t, of(all...), l[:82], 82, api.ErrName)
	slices.Reverse(all)
	checks(t, of(all...), l, 0, api.OK)
	checks(t, of(all...), l[:82], 0, api.ErrName)
	checks(t, of(append(all, all[40])...), l, 83, api.ErrTwice)
	own := []systab.Row{row("a"), row("b")}
	checks(t, of(rule("b", allow), rule("a", allow)), own, 0, api.OK)
	checks(t, of(rule("b", allow), rule("a", allow), rule("read", allow)), own, 2, api.ErrName)
	// A table of no names lets in a policy without rules alone (R3: nil or not).
	for _, none := range [][]systab.Row{nil, {}} {
		checks(t, of(), none, 0, api.OK)
		checks(t, policy.Policy{Default: log, X32: true, Rules: []policy.Rule{}}, none, 0, api.OK)
		checks(t, of(rule("read", allow)), none, 0, api.ErrName)
	}
}

// P15.1, R3: an empty list of conditions may be nil.
func TestEmpty(t *testing.T) {
	none := policy.Rule{Name: "read", Action: allow, Conds: []cond.Cond{}}
	l := systab.Builtin()
	checks(t, of(none), l, 0, api.OK)
	checks(t, of(none, rule("read", log)), l, 1, api.ErrTwice)
	checks(t, of(rule("read", log), none), l, 1, api.ErrTwice)
	checks(t, of(none, rule("read", log, is(1))), l, 1, api.ErrTwice)
	checks(t, of(rule("read", log, is(1)), none), l, 0, api.OK)
}

// P15.1: as many rules, conditions and rows as may be.
func TestMost(t *testing.T) {
	var p policy.Policy
	p.Default = kill
	for n := range uint64(api.MaxRules) {
		p.Rules = append(p.Rules, rule("read", allow, is(n), is(n+1), is(n+2), is(n+3), is(n+4), masked(n, n)))
	}
	l := systab.Builtin()
	checks(t, p, l, 0, api.OK)
	last := p.Rules[499].Conds
	p.Rules[499].Conds = slices.Clone(p.Rules[0].Conds)
	slices.Reverse(p.Rules[499].Conds)
	checks(t, p, l, 499, api.ErrTwice)
	p.Rules[499].Conds = last
	p.Rules[499].Name = "nobody"
	checks(t, p, l, 499, api.ErrName)
	var rows []systab.Row
	p.Rules = nil
	for n := range api.MaxRows {
		rows = append(rows, row(fmt.Sprintf("a%03d", n)))
		p.Rules = append(p.Rules, rule(rows[n].Name, allow))
	}
	checks(t, p, rows, 0, api.OK)
	checks(t, p, rows[:399], 399, api.ErrName)
}

// chance tells numbers that are the same each time.
type chance uint64

func (c *chance) below(n int) int {
	*c = *c*6364136223846793005 + 1442695040888963407
	mixed := uint64(*c>>32) ^ uint64(*c>>47)
	return int((mixed * 0x9e3779b97f4a7c15 >> 33) % uint64(n))
}

// cond tells a condition out of few, seldom with bits beside its mask.
func (c *chance) cond() cond.Cond {
	values := []uint64{0, 1, 2, 1 << 32, math.MaxUint64}
	d := cond.Cond{Arg: c.below(2), Op: 1 + c.below(2), Value: values[c.below(2)]}
	switch c.below(12) {
	case 0, 1, 2:
		d.Op, d.Mask = 7, []uint64{1, 3, math.MaxUint64}[c.below(3)]
	case 3:
		d.Op, d.Mask, d.Value = 7, values[c.below(5)], values[c.below(5)]
	case 4:
		d = cond.Cond{Arg: c.below(6), Op: 1 + c.below(6), Value: values[c.below(5)]}
	}
	return d
}

// common tells the names that policies are made of here.
func common() []string { return []string{"bind", "close", "open", "read", "recv", "write"} }

// policy tells a policy of up to so many rules, of few names, seldom of one that the built-in table has not.
func (c *chance) policy(most int) policy.Policy {
	names := common()
	p := policy.Policy{Default: actions()[c.below(9)], X32: c.below(2) == 0}
	for range c.below(most + 1) {
		r := policy.Rule{Name: names[c.below(len(names))], Action: actions()[c.below(9)]}
		if c.below(40) == 0 {
			r.Name = "nobody"
		}
		if c.below(6) > 0 {
			for range 1 + c.below(1+c.below(6)) {
				r.Conds = append(r.Conds, c.cond())
			}
		}
		p.Rules = append(p.Rules, r)
	}
	return p
}

// within: does each condition of a stand in b?
func within(a, b []cond.Cond) bool {
	for _, c := range a {
		if !slices.Contains(b, c) {
			return false
		}
	}
	return true
}

// fault tells what is wrong of a rule behind others, told word by word from the document.
func fault(ahead []policy.Rule, r policy.Rule, names []string) api.Errno {
	if !slices.Contains(names, r.Name) {
		return api.ErrName
	}
	for _, c := range r.Conds {
		if c.Op == 7 && c.Value&c.Mask != c.Value {
			return api.ErrRange
		}
	}
	for _, s := range ahead {
		if s.Name == r.Name && (len(s.Conds) == 0 || within(r.Conds, s.Conds) && within(s.Conds, r.Conds)) {
			return api.ErrTwice
		}
	}
	return api.OK
}

// told tells what Check ought to, of a policy that may be, and a table that may.
func told(p policy.Policy, l []systab.Row) (int, api.Errno) {
	var names []string
	for _, r := range l {
		names = append(names, r.Name)
	}
	for at, r := range p.Rules {
		if e := fault(p.Rules[:at], r, names); e != api.OK {
			return at, e
		}
	}
	return 0, api.OK
}

// P15.1: over many policies, held against a second telling of the document's words.
func TestManyPolicies(t *testing.T) {
	var c chance
	met := map[api.Errno]int{}
	few := fewRows()
	tables := [][]systab.Row{few, few, few, few[1:], few[:5], {row("nobody"), row("read")}}
	for n := range 60000 {
		p, l := c.policy(1+n%12), tables[c.below(len(tables))]
		number, e := told(p, l)
		checks(t, p, l, number, e)
		met[e]++
	}
	for _, e := range []api.Errno{api.OK, api.ErrName, api.ErrRange, api.ErrTwice} {
		if met[e] < 1000 {
			t.Errorf("error %d: %d policies", e, met[e])
		}
	}
}

// deep tells a policy again, in other memory.
func deep(p policy.Policy) policy.Policy {
	p.Rules = slices.Clone(p.Rules)
	for at := range p.Rules {
		p.Rules[at].Conds = slices.Clone(p.Rules[at].Conds)
	}
	return p
}

// follow holds what follows of a valid policy to be valid, too.
func follow(t *testing.T, c *chance, p policy.Policy, l []systab.Row) {
	t.Helper()
	for at := range p.Rules {
		less := deep(p)
		less.Rules = slices.Delete(less.Rules, at, at+1)
		checks(t, less, l, 0, api.OK)
		other := deep(p)
		other.Rules[at].Action = actions()[c.below(9)]
		checks(t, other, l, 0, api.OK)
		turned := deep(p)
		conds := turned.Rules[at].Conds
		for n := range conds {
			m := c.below(n + 1)
			conds[n], conds[m] = conds[m], conds[n]
		}
		checks(t, turned, l, 0, api.OK)
		slices.Reverse(conds)
		checks(t, turned, l, 0, api.OK)
	}
	for _, a := range actions() {
		other := deep(p)
		other.Default, other.X32 = a, !p.X32
		checks(t, other, l, 0, api.OK)
	}
}

// fewRows tells the built-in table's rows of the names that policies are made of here: asked so often, all of it takes its time.
func fewRows() []systab.Row {
	return slices.DeleteFunc(systab.Builtin(), func(r systab.Row) bool { return !slices.Contains(common(), r.Name) })
}

// P15.2: a valid policy without one of its rules, or with its default or an action another one, or with the order of a rule's conditions another one, is valid.
func TestFollows(t *testing.T) {
	var c chance
	l := fewRows()
	held := 0
	for range 6000 {
		p := c.policy(6)
		if _, e := valid.Check(p, l); e != api.OK {
			continue
		}
		held += len(p.Rules)
		follow(t, &c, p, l)
	}
	if held < 3000 {
		t.Errorf("%d rules", held)
	}
	for _, text := range []string{"default kill", "default kill\nread allow if a0 == 1 and a1 == 2 and a0 == 1\nread log if a0 == 1\nread kill", "default kill\nread allow if a0 & 3 == 1 and a5 > 2 and a0 & 3 == 1\nwrite log\nread allow"} {
		follow(t, &c, parsed(t, text), systab.Builtin())
	}
}

// spare tells a policy of six conditions a rule, in lists with room behind their ends, and these lists, whole.
func spare(conds [][]cond.Cond) (policy.Policy, []policy.Rule, [][]cond.Cond) {
	rules := make([]policy.Rule, 0, len(conds)+2)
	var whole [][]cond.Cond
	for at, l := range conds {
		room := slices.Concat(l, []cond.Cond{is(99), masked(1, 2)})
		whole = append(whole, room)
		rules = append(rules, policy.Rule{Name: []string{"read", "write"}[at%2], Action: allow, Conds: room[:len(l)]})
	}
	rules = append(rules, rule("nobody", log, is(7)), rule("read", kill))
	return of(rules[:len(conds)]...), rules, whole
}

// R4: neither the policy nor the table is changed, the spare room behind their lists' ends neither.
func TestUnchanged(t *testing.T) {
	for _, conds := range [][][]cond.Cond{
		{{is(3), is(2), is(1), is(2), is(3)}, {is(2), is(2)}, {is(5), is(4)}},
		{{is(3), is(2), is(1)}, {}, {is(1), is(3), is(2), is(2), is(1)}},
		{{is(3), masked(1, 2), is(1)}},
		{{}, {}, {is(2), is(1)}},
	} {
		p, rules, whole := spare(conds)
		was := deep(policy.Policy{Rules: rules})
		var rooms [][]cond.Cond
		for _, l := range whole {
			rooms = append(rooms, slices.Clone(l))
		}
		table := append(systab.Builtin(), row("z"))
		valid.Check(p, table[:83])
		if !policy.Same(policy.Policy{Rules: rules}, was) || !slices.EqualFunc(whole, rooms, slices.Equal) {
			t.Errorf("%v: %+v, %v", conds, rules, whole)
		}
		if !slices.Equal(table, append(systab.Builtin(), row("z"))) {
			t.Errorf("%v: another table", conds)
		}
	}
}

// R4, R5: nothing is kept from call to call: what is asked again, in whatever order, is answered again.
func TestAgain(t *testing.T) {
	type answer struct {
		number int
		e      api.Errno
	}
	ask := func() []answer {
		var c chance
		var l []answer
		for range 300 {
			number, e := valid.Check(c.policy(8), systab.Builtin())
			l = append(l, answer{number, e})
		}
		return l
	}
	first := ask()
	if again := ask(); !slices.Equal(first, again) {
		t.Errorf("%v, then %v", first, again)
	}
	p := of(rule("read", allow))
	for range 3 {
		checks(t, p, systab.Builtin(), 0, api.OK)
		checks(t, of(rule("read", log), rule("read", allow)), systab.Builtin(), 1, api.ErrTwice)
	}
}
