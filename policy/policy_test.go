package policy_test

import (
	"fmt"
	"math"
	"slices"
	"strconv"
	"strings"
	"testing"

	"strainer/act"
	"strainer/api"
	"strainer/cond"
	"strainer/policy"
)

// Actions that the tests put.
var (
	kill  = act.Action{Kind: 1}
	log   = act.Action{Kind: 7}
	allow = act.Action{Kind: 8}
)

func errno(n int) act.Action { return act.Action{Kind: 4, Number: n} }

func rule(name string, a act.Action, l ...cond.Cond) policy.Rule {
	return policy.Rule{Name: name, Action: a, Conds: l}
}

// brief tells a policy's beginning, with a fault.
func brief(p policy.Policy) string { return fmt.Sprintf("%.300s", fmt.Sprintf("%+v", p)) }

// is tells the condition that argument 0 is a value.
func is(value uint64) cond.Cond { return cond.Cond{Op: 1, Value: value} }

// many tells a list of the same thing, so many times.
func many[T any](n int, of T) []T { return slices.Repeat([]T{of}, n) }

// sample is the document's example.
func sample() policy.Policy {
	return policy.Policy{Default: kill, Rules: []policy.Rule{
		rule("read", allow),
		rule("open", errno(13), cond.Cond{Arg: 1, Op: 7, Mask: 3}, cond.Cond{Arg: 2, Op: 5, Value: 5}),
	}}
}

const sampleText = "default kill\nread allow\nopen errno 13 if a1 & 3 == 0 and a2 > 5\n"

// names that may be, and others.
var (
	names   = []string{"a", "z", "read", "a0", "a_", "rt_sigaction", "x", "x3", "x32_", "x320", "defaul", "default_", "defaults", "if", "and", "on", "off", "kill", "allow", "errno", "a1", strings.Repeat("a", 30), "a" + strings.Repeat("_", 29)}
	noNames = []string{"", "default", "x32", "A", "Read", "reaD", "0", "0a", "_", "_a", "a b", " a", "a ", "a\n", "a\t", "a#", "a.b", "a-b", "a\x00", "\x00", "ä", "aä", "a\xff", "/", ":", "@", "[", "`", "{", "a/", "a:", "a`", "a{", strings.Repeat("a", 31), strings.Repeat("a", 1<<16)}
)

// rights goes through policies that may be, by hand.
func rights() []policy.Policy {
	l := []policy.Policy{
		sample(),
		{Default: kill},
		{Default: kill, X32: true},
		{Default: errno(4095), Rules: []policy.Rule{}},
		{Default: log, Rules: []policy.Rule{{Name: "read", Action: log, Conds: []cond.Cond{}}}},
		// Whether rules mean something is not asked here.
		{Default: log, Rules: []policy.Rule{rule("nobody", kill), rule("read", kill), rule("read", kill), rule("b", kill), rule("a", kill, cond.Cond{Op: 7, Value: 1})}},
		{Default: kill, Rules: []policy.Rule{rule("read", allow, many(6, is(1))...)}},
		{Default: kill, X32: true, Rules: many(500, rule("read", allow))},
		{Default: kill, Rules: []policy.Rule{rule("a", allow, cond.Cond{Arg: 5, Op: 7, Mask: math.MaxUint64, Value: math.MaxUint64})}},
	}
	for _, a := range actions() {
		l = append(l, policy.Policy{Default: a}, policy.Policy{Default: kill, Rules: []policy.Rule{rule("read", a), rule("write", a, is(0))}})
	}
	for _, name := range names {
		l = append(l, policy.Policy{Default: kill, Rules: []policy.Rule{rule(name, allow)}})
	}
	return l
}

// actions tells some that may be, of all kinds.
func actions() []act.Action {
	return []act.Action{kill, {Kind: 2}, {Kind: 3}, errno(0), errno(1), errno(4095), {Kind: 5}, {Kind: 6}, {Kind: 6, Number: 65535}, log, allow}
}

// wrongs goes through policies that may not be: each has one part that may not, or one too many.
func wrongs() []policy.Policy {
	l := []policy.Policy{{}, {X32: true}, {Rules: []policy.Rule{rule("read", allow)}}, {Default: kill, Rules: make([]policy.Rule, 1)}}
	one := func(r policy.Rule) {
		l = append(l, policy.Policy{Default: kill, Rules: []policy.Rule{r}}, policy.Policy{Default: kill, X32: true, Rules: []policy.Rule{rule("read", allow), r, rule("write", allow)}}, policy.Policy{Default: kill, Rules: append(many(499, rule("read", allow)), r)})
	}
	for _, a := range []act.Action{{}, {Kind: -1}, {Kind: 9}, {Kind: 1, Number: 1}, {Kind: 8, Number: -1}, errno(4096), errno(-1), {Kind: 6, Number: 65536}} {
		l = append(l, policy.Policy{Default: a}, policy.Policy{Default: a, Rules: []policy.Rule{rule("read", allow)}})
		one(rule("read", a))
		one(rule("read", a, is(1)))
	}
	for _, name := range noNames {
		one(rule(name, allow))
		one(rule(name, allow, is(1)))
	}
	for _, c := range []cond.Cond{{}, {Op: 8}, {Op: -1}, {Arg: 6, Op: 1}, {Arg: -1, Op: 1}, {Op: 1, Mask: 1}, {Arg: 5, Op: 6, Mask: math.MaxUint64}} {
		one(rule("read", allow, c))
		one(rule("read", allow, c, is(1)))
		one(rule("read", allow, append(many(5, is(1)), c)...))
	}
	one(rule("read", allow, many(7, is(1))...))
	one(rule("read", allow, many(700, is(1))...))
	return append(l, policy.Policy{Default: kill, Rules: many(501, rule("read", allow))}, policy.Policy{Default: kill, Rules: many(5000, rule("read", allow))})
}

// P14.1: all parts may be, and are not too many.
func TestRight(t *testing.T) {
	for _, p := range rights() {
		if !policy.Right(p) {
			t.Errorf("%s may not be", brief(p))
		}
	}
}

// P14.1, R2: a part that may not be, or one too many; Print then tells nothing but ErrForm.
func TestWrong(t *testing.T) {
	for _, p := range wrongs() {
		if policy.Right(p) {
			t.Errorf("%s may be", brief(p))
		}
		if text, e := policy.Print(p); text != "" || e != api.ErrForm {
			t.Errorf("Print of %s: %.300q, %d", brief(p), text, e)
		}
	}
}

// P14.1: own texts, by hand.
func TestPrint(t *testing.T) {
	for text, p := range map[string]policy.Policy{
		sampleText:                       sample(),
		"default kill\n":                 {Default: kill},
		"default kill_thread\nx32 on\n":  {Default: act.Action{Kind: 2}, X32: true},
		"default errno 38\nread allow\n": {Default: errno(38), Rules: []policy.Rule{rule("read", allow)}},
		"default trace 65535\nx32 on\nread trap\nread trap\na log if a0 == 1\n":                  {Default: act.Action{Kind: 6, Number: 65535}, X32: true, Rules: []policy.Rule{rule("read", act.Action{Kind: 3}), rule("read", act.Action{Kind: 3}), rule("a", log, is(1))}},
		"default notify\nif errno 0 if a0 == 1 and a0 == 1 and a5 & 18446744073709551615 == 0\n": {Default: act.Action{Kind: 5}, Rules: []policy.Rule{rule("if", errno(0), is(1), is(1), cond.Cond{Arg: 5, Op: 7, Mask: math.MaxUint64})}},
	} {
		if got, e := policy.Print(p); got != text || e != api.OK {
			t.Errorf("Print: %q, %d; not %q", got, e, text)
		}
	}
}

// sized tells a policy that may be, whose own text has so many bytes.
func sized(t *testing.T, size int) policy.Policy {
	p := policy.Policy{Default: kill, X32: true}
	left := size - len("default kill\nx32 on\n")
	full := rule("a", allow, many(6, cond.Cond{Op: 7, Mask: math.MaxUint64, Value: math.MaxUint64})...)
	length := len("a allow\n") + len(" if") + 5*len(" and") + 6*len(" a0 & 18446744073709551615 == 18446744073709551615")
	for ; left > 2*length; left -= length {
		p.Rules = append(p.Rules, full)
	}
	for ; left > 100; left -= len("read allow\n") {
		p.Rules = append(p.Rules, rule("read", allow))
	}
	for ; left > 36; left -= len("a allow\n") {
		p.Rules = append(p.Rules, rule("a", allow))
	}
	p.Rules = append(p.Rules, rule(strings.Repeat("a", left-len(" allow\n")), allow))
	if !policy.Right(p) {
		t.Fatalf("%d bytes: %d rules may not be", size, len(p.Rules))
	}
	return p
}

// P14.1, R2: an own text has at most 2^16 bytes; that a policy may not be counts ahead of a text that is too long.
func TestPrintLong(t *testing.T) {
	for _, size := range []int{1000, 65534, 65535, 65536} {
		p := sized(t, size)
		text, e := policy.Print(p)
		if len(text) != size || e != api.OK {
			t.Errorf("%d bytes: %d, %d", size, len(text), e)
		}
		parses(t, text, p)
	}
	for _, size := range []int{65537, 65538, 66000, 80000, 120000} {
		p := sized(t, size)
		if text, e := policy.Print(p); text != "" || e != api.ErrLong {
			t.Errorf("%d bytes: %d, %d", size, len(text), e)
		}
		p.Rules[len(p.Rules)-1].Action = act.Action{}
		if text, e := policy.Print(p); text != "" || e != api.ErrForm {
			t.Errorf("%d bytes, and wrong: %d, %d", size, len(text), e)
		}
	}
	p := policy.Policy{Default: kill, Rules: many(500, rule(strings.Repeat("a", 30), errno(4095), many(6, cond.Cond{Op: 7, Mask: math.MaxUint64, Value: math.MaxUint64})...))}
	if text, e := policy.Print(p); text != "" || e != api.ErrLong {
		t.Errorf("the longest: %d, %d", len(text), e)
	}
}

// P14.1, P14.2: figures of 16 are fewer than those of 10: a text of 2^16 bytes may have an own text that is too long.
func TestOwnTextLonger(t *testing.T) {
	line := "\nread allow if a0 & 0xffffffffffffffff == 0xffffffffffffffff"
	for range 5 {
		line += " and a0 & 0xffffffffffffffff == 0xffffffffffffffff"
	}
	n := (api.MaxText - len("default kill")) / len(line)
	p, at, e := policy.Parse("default kill" + strings.Repeat(line, n))
	if len(p.Rules) != n || at != 0 || e != api.OK || !policy.Right(p) {
		t.Errorf("%d rules, %d, %d", len(p.Rules), at, e)
	}
	if text, e := policy.Print(p); text != "" || e != api.ErrLong {
		t.Errorf("%d bytes, %d", len(text), e)
	}
}

// sames holds Same to an answer, in both orders.
func sames(t *testing.T, a, b policy.Policy, want bool) {
	t.Helper()
	if policy.Same(a, b) != want || policy.Same(b, a) != want {
		t.Errorf("Same of %s and %s: not %v", brief(a), brief(b), want)
	}
}

// P14.1, R3: all fields count, rule by rule, condition by condition; an empty list may be nil. Whether they may be does not count.
func TestSame(t *testing.T) {
	for _, p := range append(rights(), wrongs()...) {
		sames(t, p, deep(p), true)
	}
	sames(t, policy.Policy{Rules: []policy.Rule{{Conds: []cond.Cond{}}}}, policy.Policy{Rules: []policy.Rule{{}}}, true)
	sames(t, policy.Policy{Rules: []policy.Rule{}}, policy.Policy{}, true)
	for name, change := range map[string]func(p *policy.Policy){
		"kind":            func(p *policy.Policy) { p.Default.Kind++ },
		"number":          func(p *policy.Policy) { p.Default.Number++ },
		"x32":             func(p *policy.Policy) { p.X32 = !p.X32 },
		"no rules":        func(p *policy.Policy) { p.Rules = nil },
		"fewer rules":     func(p *policy.Policy) { p.Rules = p.Rules[:1] },
		"more rules":      func(p *policy.Policy) { p.Rules = append(p.Rules, policy.Rule{}) },
		"order":           func(p *policy.Policy) { slices.Reverse(p.Rules) },
		"name":            func(p *policy.Policy) { p.Rules[0].Name = "reae" },
		"last name":       func(p *policy.Policy) { p.Rules[1].Name += "a" },
		"rule's kind":     func(p *policy.Policy) { p.Rules[0].Action.Kind-- },
		"rule's number":   func(p *policy.Policy) { p.Rules[1].Action.Number-- },
		"no conditions":   func(p *policy.Policy) { p.Rules[1].Conds = nil },
		"fewer":           func(p *policy.Policy) { p.Rules[1].Conds = p.Rules[1].Conds[:1] },
		"more":            func(p *policy.Policy) { p.Rules[0].Conds = many(1, cond.Cond{}) },
		"conds' order":    func(p *policy.Policy) { slices.Reverse(p.Rules[1].Conds) },
		"argument":        func(p *policy.Policy) { p.Rules[1].Conds[0].Arg++ },
		"operator":        func(p *policy.Policy) { p.Rules[1].Conds[1].Op++ },
		"mask":            func(p *policy.Policy) { p.Rules[1].Conds[0].Mask += 1 << 32 },
		"value":           func(p *policy.Policy) { p.Rules[1].Conds[1].Value += 1 << 63 },
		"a condition, on": func(p *policy.Policy) { p.Rules[0].Conds, p.Rules[1].Conds = p.Rules[1].Conds, nil },
	} {
		p := deep(sample())
		change(&p)
		if policy.Same(sample(), p) || policy.Same(p, sample()) {
			t.Errorf("%s: the same", name)
		}
	}
	l := wrongs()
	for at, p := range rights() {
		sames(t, p, l[at], false)
	}
}

// deep tells a policy again, in other memory.
func deep(p policy.Policy) policy.Policy {
	p.Rules = slices.Clone(p.Rules)
	for at := range p.Rules {
		p.Rules[at].Conds = slices.Clone(p.Rules[at].Conds)
	}
	return p
}

// equal: are two policies field by field the same, told without the package?
func equal(a, b policy.Policy) bool {
	if a.Default != b.Default || a.X32 != b.X32 || len(a.Rules) != len(b.Rules) {
		return false
	}
	for at, r := range a.Rules {
		s := b.Rules[at]
		if r.Name != s.Name || r.Action != s.Action || !slices.Equal(r.Conds, s.Conds) {
			return false
		}
	}
	return true
}

// parses holds Parse to a policy, which then may be.
func parses(t *testing.T, text string, want policy.Policy) {
	t.Helper()
	p, n, e := policy.Parse(text)
	if !equal(p, want) || n != 0 || e != api.OK {
		t.Errorf("Parse of %.300q: %s, %d, %d; not %s", text, brief(p), n, e, brief(want))
	}
	if !policy.Right(p) {
		t.Errorf("Parse of %.300q may not be", text)
	}
}

// fails holds Parse to an error, with the number of its line, and no policy beside it (R2).
func fails(t *testing.T, text string, number int, want api.Errno) {
	t.Helper()
	if p, n, e := policy.Parse(text); !equal(p, policy.Policy{}) || n != number || e != want {
		t.Errorf("Parse of %.300q: %s, %d, %d; not %d, %d", text, brief(p), n, e, number, want)
	}
}

// P14.2: texts that may be, by hand; the document's example first.
func TestParse(t *testing.T) {
	parses(t, "default kill\nread allow\nopen errno 13 if a1 & 3 == 0 and a2 > 5", sample())
	parses(t, sampleText, sample())
	parses(t, "# what is left\n\n\tdefault\rkill # all else\r\n \r\nx32 off\n#\nread  allow#\nopen errno 13   if a1 & 0x3 == 0x0 and a2 > 5 # and a3 == 1\n\n", sample())
	parses(t, "default kill", policy.Policy{Default: kill})
	parses(t, "default errno 38", policy.Policy{Default: errno(38)})
	parses(t, "default kill\nx32 on", policy.Policy{Default: kill, X32: true})
	parses(t, "default kill\nx32 off", policy.Policy{Default: kill})
	parses(t, "\n\ndefault kill # x32 off\n\n# x32 off\n\nx32 on # off\nread allow", policy.Policy{Default: kill, X32: true, Rules: []policy.Rule{rule("read", allow)}})
	parses(t, "default kill\nread allow\nread allow\nnobody log", policy.Policy{Default: kill, Rules: []policy.Rule{rule("read", allow), rule("read", allow), rule("nobody", log)}})
	// Words that mean something in a text may be names.
	parses(t, "default kill\nif errno 1 if a0 == 1\nand allow\non kill\noff log\nkill kill\nerrno errno 2", policy.Policy{Default: kill, Rules: []policy.Rule{
		rule("if", errno(1), is(1)), rule("and", allow), rule("on", kill), rule("off", log), rule("kill", kill), rule("errno", errno(2)),
	}})
	parses(t, "default kill\na1 allow if a1 & 3 == 2 and a0 == 1", policy.Policy{Default: kill, Rules: []policy.Rule{rule("a1", allow, cond.Cond{Arg: 1, Op: 7, Mask: 3, Value: 2}, is(1))}})
	parses(t, "default kill\nread allow if a0 == 1"+strings.Repeat(" and a0 == 1", 5), policy.Policy{Default: kill, Rules: []policy.Rule{rule("read", allow, many(6, is(1))...)}})
	parses(t, "default kill"+strings.Repeat("\nread allow", 500), policy.Policy{Default: kill, Rules: many(500, rule("read", allow))})
	parses(t, "default kill\nx32 on"+strings.Repeat("\n\nread allow", 500), policy.Policy{Default: kill, X32: true, Rules: many(500, rule("read", allow))})
}

// P14.2: layer 13's errors count ahead of all others, wherever they stand; a text without a line that counts is empty.
func TestLinesWrong(t *testing.T) {
	long := strings.Repeat("#", 65536)
	fails(t, long, 0, api.ErrEmpty)
	fails(t, long+"#", 0, api.ErrLong)
	fails(t, "default kill\n"+long, 0, api.ErrLong)
	fails(t, "\x01"+long, 0, api.ErrLong)
	fails(t, "read deny\n"+long, 0, api.ErrLong)
	parses(t, "default kill\n"+long[13:], policy.Policy{Default: kill})
	fails(t, "\x01", 1, api.ErrForm)
	fails(t, "default kill\n\n\x01", 3, api.ErrForm)
	fails(t, "default deny\nread allow\nread allow \x7f", 3, api.ErrForm)
	fails(t, "default kill\nread errno 4096\n\n\u00e4", 4, api.ErrForm)
	for _, text := range []string{"", " ", "\n", "\n\n\n", "\t\r\n ", "#", "# default kill", "#\n#\n\n # default kill\n"} {
		fails(t, text, 0, api.ErrEmpty)
	}
}

// P14.2: what is wrong of the default's line, and of one that stands elsewhere.
func TestDefaultWrong(t *testing.T) {
	for _, text := range []string{"read allow", "x32 on", "x32", "x32 off", "read", "READ", "kill", "Default kill", "DEFAULT kill", "defaul kill", "default_ kill", "defaultkill", "read deny", "read errno 4096", "if", "\"default\" kill", "default=kill", "on default kill"} {
		fails(t, text, 1, api.ErrForm)
		fails(t, text+"\ndefault kill", 1, api.ErrForm)
		fails(t, "# default kill\n\n"+text+"\ndefault deny", 3, api.ErrForm)
	}
	for text, e := range map[string]api.Errno{
		"default": api.ErrForm, "default deny": api.ErrName, "default KILL": api.ErrName, "default 0": api.ErrName, "default default": api.ErrName, "default if": api.ErrName,
		"default errno": api.ErrForm, "default errno x": api.ErrForm, "default errno 01": api.ErrForm, "default errno 0x1": api.ErrForm, "default errno -1": api.ErrForm, "default errno 1234567890": api.ErrForm, "default errno if": api.ErrForm,
		"default errno 4096": api.ErrRange, "default trace 65536": api.ErrRange, "default trace 999999999": api.ErrRange,
		"default kill now": api.ErrForm, "default kill kill": api.ErrForm, "default kill 0": api.ErrForm, "default errno 1 2": api.ErrForm, "default kill if a0 == 1": api.ErrForm, "default kill default kill": api.ErrForm, "default allow x32 on": api.ErrForm,
		// The action counts ahead of what stands behind it.
		"default deny now": api.ErrName, "default errno 4096 now": api.ErrRange, "default errno now 1": api.ErrForm,
	} {
		fails(t, text, 1, e)
		fails(t, "\n# a\n"+text+"\nread deny\ndefault kill", 3, e)
		// Elsewhere it is wrong, whatever follows.
		fails(t, "default kill\n"+text, 2, api.ErrForm)
		fails(t, "default kill\nx32 on\nread allow\n\n"+text+"\nread deny", 5, api.ErrForm)
	}
	for _, text := range []string{"default kill", "default errno 1", "default allow"} {
		fails(t, "default kill\n"+text, 2, api.ErrForm)
		fails(t, "default kill\nread allow\n"+text, 3, api.ErrForm)
		fails(t, "default kill\nx32 on\n"+text, 3, api.ErrForm)
	}
}

// P14.2: x32's line is the second one that counts, with just one word behind, which is on or off.
func TestX32Wrong(t *testing.T) {
	for _, text := range []string{"x32", "x32 maybe", "x32 ON", "x32 On", "x32 Off", "x32 1", "x32 true", "x32 on on", "x32 on off", "x32 off on", "x32 on now", "x32 x32", "x32 x32 on", "x32 allow", "x32 deny", "x32 errno 4096", "x32 kill if a0 == 1", "x32 o", "x32 onn", "x32 of"} {
		fails(t, "default kill\n"+text, 2, api.ErrForm)
		fails(t, "default kill\n\n# a\n"+text+"\nread deny", 4, api.ErrForm)
		fails(t, "default kill\nread allow\n"+text, 3, api.ErrForm)
	}
	for _, text := range []string{"x32 on", "x32 off"} {
		fails(t, text, 1, api.ErrForm)
		fails(t, text+"\ndefault kill", 1, api.ErrForm)
		fails(t, "default kill\nread allow\n"+text, 3, api.ErrForm)
		fails(t, "default kill\nx32 on\n"+text, 3, api.ErrForm)
		fails(t, "default kill\nx32 off\n\n"+text, 4, api.ErrForm)
		fails(t, "default kill"+strings.Repeat("\nread allow", 500)+"\n"+text, 502, api.ErrForm)
		// In a capital it is no line of x32's: its word is no action.
		fails(t, "default kill\nX"+text[1:], 2, api.ErrName)
	}
}

// after holds Parse to an error of a rule's line, in several places.
func after(t *testing.T, line string, e api.Errno) {
	t.Helper()
	fails(t, "default kill\n"+line, 2, e)
	fails(t, "default kill\nx32 on\n"+line+"\n"+line, 3, e)
	fails(t, "\n# a\ndefault kill\n \t"+line+" # b\ndefault kill", 4, e)
	fails(t, "default kill\nx32 off\nread allow\nopen errno 13 if a1 & 3 == 0 and a2 > 5\n\n\t\n"+line+"\nx32 on\nread deny", 7, e)
	fails(t, "default kill"+strings.Repeat("\nread allow if a0 == 1", 499)+"\n"+line, 501, e)
}

// P14.2: what is wrong of a rule's line: its action, its name, what stands behind.
func TestRuleWrong(t *testing.T) {
	for line, e := range map[string]api.Errno{
		"read": api.ErrForm, "read deny": api.ErrName, "read ALLOW": api.ErrName, "read if": api.ErrName, "read if a0 == 1": api.ErrName, "read read": api.ErrName, "read 13": api.ErrName,
		"read errno": api.ErrForm, "read errno if a0 == 1": api.ErrForm, "read errno 013": api.ErrForm, "read errno 0xd": api.ErrForm, "read errno 4096": api.ErrRange, "read trace 65536 if": api.ErrRange,
		"read allow a0 == 1": api.ErrForm, "read allow and a0 == 1": api.ErrForm, "read allow IF a0 == 1": api.ErrForm, "read allow 0": api.ErrForm, "read errno 13 13": api.ErrForm, "read allow deny": api.ErrForm, "read allow or": api.ErrForm, "read allow allow if a0 == 1": api.ErrForm,
		"Read allow": api.ErrForm, "READ allow": api.ErrForm, "0 allow": api.ErrForm, "_a allow": api.ErrForm, "a-b allow if a0 == 1": api.ErrForm, "a. allow x": api.ErrForm,
		strings.Repeat("a", 31) + " allow": api.ErrForm, strings.Repeat("a", 31): api.ErrForm, "deny": api.ErrForm, "DENY": api.ErrForm,
	} {
		after(t, line, e)
	}
	for _, name := range noNames {
		if name != "" && len(name) < 40 && !strings.ContainsAny(name, " \t\n#\x00\xff\u00e4") {
			after(t, name+" allow", api.ErrForm)
			after(t, name+" errno 13 if a0 == 1", api.ErrForm)
		}
	}
	for _, name := range names {
		parses(t, "default kill\n"+name+" allow", policy.Policy{Default: kill, Rules: []policy.Rule{rule(name, allow)}})
	}
}

// P14.2, R2: an action is named ahead of a name, a name ahead of what stands behind the action.
func TestRuleOrder(t *testing.T) {
	after(t, "READ deny", api.ErrName)
	after(t, "READ errno 4096", api.ErrRange)
	after(t, "READ errno x", api.ErrForm)
	after(t, "READ deny if a6 == 1", api.ErrName)
	after(t, "READ allow if a6 == 1", api.ErrForm)
	after(t, "READ allow if a0 == 1"+strings.Repeat(" and a0 == 1", 6), api.ErrForm)
	after(t, "READ errno 4096 x", api.ErrRange)
	after(t, "read deny x", api.ErrName)
	after(t, "read errno 4096 if a6 == 1", api.ErrRange)
	after(t, "read errno x if a6 == 1", api.ErrForm)
	after(t, "read allow when a6 == 1", api.ErrForm)
}

// P14.2: there are at most 500 rules; that counts ahead of what else is wrong of the next one, but a line of the default's or of x32's is none.
func TestManyRules(t *testing.T) {
	for _, ahead := range []string{"default kill", "default kill\nx32 on", "\n\ndefault kill # a\n\nx32 off"} {
		full := ahead + strings.Repeat("\nread allow", 500)
		number := strings.Count(full, "\n") + 2
		for _, line := range []string{"read allow", "write kill if a0 == 1", "read deny", "read", "read errno 4096", "read errno x", "READ allow", "READ deny", "read allow if", "read allow when", "read allow if a6 == 1", "0"} {
			fails(t, full+"\n"+line, number, api.ErrLong)
			fails(t, full+"\n\n#\n"+line+"\n"+line+"\ndefault", number+2, api.ErrLong)
		}
		for _, line := range []string{"default kill", "default", "x32 on", "x32", "x32 allow", "default deny"} {
			fails(t, full+"\n"+line, number, api.ErrForm)
		}
		// A wrong line ahead counts first.
		fails(t, ahead+"\nread deny"+strings.Repeat("\nread allow", 500), strings.Count(ahead, "\n")+2, api.ErrName)
		fails(t, full+strings.Repeat("\nread allow", 2000), number, api.ErrLong)
	}
}

// P14.2: what is wrong of a rule's conditions, the first one from the left.
func TestCondsWrong(t *testing.T) {
	for words, e := range map[string]api.Errno{
		"": api.ErrForm, "a0": api.ErrForm, "a0 ==": api.ErrForm, "a0 == x": api.ErrForm, "a0 = 1": api.ErrForm, "b0 == 1": api.ErrForm, "a == 1": api.ErrForm, "if": api.ErrForm, "if a0 == 1": api.ErrForm, "and a0 == 1": api.ErrForm, "a0 == 01": api.ErrForm, "a0 == 18446744073709551616": api.ErrForm, "a0 & 3": api.ErrForm, "a0 & 3 == ": api.ErrForm, "a0 & 3 != 1": api.ErrForm, "and": api.ErrForm,
		"a6 == 1": api.ErrRange, "a9": api.ErrRange, "a00 == 1": api.ErrRange, "a10": api.ErrRange, "a99999999999 == x": api.ErrRange,
		"a0 == 1 and": api.ErrForm, "a0 == 1 a1 == 1": api.ErrForm, "a0 == 1 if a1 == 1": api.ErrForm, "a0 == 1 or a1 == 1": api.ErrForm, "a0 == 1 AND a1 == 1": api.ErrForm, "a0 == 1 and and a1 == 1": api.ErrForm, "a0 == 1 and if a1 == 1": api.ErrForm, "a0 == 1 and b": api.ErrForm, "a0 == 1 1": api.ErrForm,
		"a0 == 1 and a6 == 1": api.ErrRange, "a0 == 1 and a6": api.ErrRange, "a0 & 1 == 1 and a7": api.ErrRange,
		// From the left: behind what is wrong nothing counts.
		"a6 == 1 and b": api.ErrRange, "b and a6 == 1": api.ErrForm, "a0 == 1 or a6 == 1": api.ErrForm, "a6 == 1 or": api.ErrRange, "a0 == 1 and b0 == 1 and a6": api.ErrForm,
	} {
		after(t, "read allow if "+words, e)
		after(t, "read errno 13 if "+words, e)
		after(t, "read allow if a5 & 0x7 == 4 and "+words, e)
	}
	six := "read allow if a0 == 1" + strings.Repeat(" and a0 == 1", 5)
	for behind, e := range map[string]api.Errno{
		"and": api.ErrLong, "and a0 == 1": api.ErrLong, "and a6 == 1": api.ErrLong, "and x": api.ErrLong, "and and": api.ErrLong, "and a0 == 1 and a0 == 1": api.ErrLong, "and a0 == 1 or": api.ErrLong,
		"a0 == 1": api.ErrForm, "or": api.ErrForm, "if": api.ErrForm, "x and": api.ErrForm, "And a0 == 1": api.ErrForm,
	} {
		after(t, six+" "+behind, e)
	}
	after(t, "read allow if a6 == 1"+strings.Repeat(" and a0 == 1", 6), api.ErrRange)
	after(t, "read allow if a0 == 1"+strings.Repeat(" and a0 == 1", 4)+" and a6 == 1 and a0 == 1", api.ErrRange)
	after(t, "read allow if a0 == 1"+strings.Repeat(" and a0 == 1", 200), api.ErrLong)
}

// P14.2: of several lines that are wrong the first one counts.
func TestFirstLine(t *testing.T) {
	fails(t, "default kill\nread allow\nread deny\nread errno 4096\nREAD allow", 3, api.ErrName)
	fails(t, "default kill\nread allow\nread errno 4096\nread deny", 3, api.ErrRange)
	fails(t, "default deny\nread errno 4096", 1, api.ErrName)
	fails(t, "default kill\nx32 maybe\nread deny", 2, api.ErrForm)
	fails(t, "read deny\ndefault deny\nx32", 1, api.ErrForm)
	fails(t, "default kill\n\n\n\nread allow if a6 == 1\nread deny", 5, api.ErrRange)
	fails(t, "default kill"+strings.Repeat("\n", 65000)+"read deny", 65001, api.ErrName)
}

// chance tells numbers below others, by a rule.
type chance struct{ state uint32 }

func (c *chance) below(n int) int {
	c.state = c.state*1664525 + 1013904223
	return int(c.state>>8) % n
}

// one tells one of a list.
func one[T any](c *chance, l []T) T { return l[c.below(len(l))] }

// anyCond tells a condition that may be, or, now and then, not.
func anyCond(c *chance, wrong bool) cond.Cond {
	values := []uint64{0, 1, 2, 3, 255, 1 << 31, 1<<32 - 1, 1 << 32, 1 << 63, math.MaxUint64}
	r := cond.Cond{Arg: c.below(6), Op: 1 + c.below(7), Value: one(c, values)}
	if r.Op == 7 {
		r.Mask = one(c, values)
	}
	if wrong {
		r.Arg += 6
	}
	return r
}

// anyPolicy tells one that may be.
func anyPolicy(c *chance) policy.Policy {
	p := policy.Policy{Default: one(c, actions()), X32: c.below(2) == 0}
	for range c.below(6) {
		r := rule(one(c, names), one(c, actions()))
		for range c.below(7) {
			r.Conds = append(r.Conds, anyCond(c, false))
		}
		p.Rules = append(p.Rules, r)
	}
	return p
}

// written tells a policy's text by the document's words, as one word behind the other.
func written(p policy.Policy) string {
	text := "default " + act.Text(p.Default) + "\n"
	if p.X32 {
		text += "x32 on\n"
	}
	for _, r := range p.Rules {
		text += r.Name + " " + act.Text(r.Action)
		for at, c := range r.Conds {
			if at == 0 {
				text += " if " + cond.Text(c)
			} else {
				text += " and " + cond.Text(c)
			}
		}
		text += "\n"
	}
	return text
}

// P14.1, P14.2, P14.3: what is printed is its own text, and is parsed as it was.
func TestThereAndBack(t *testing.T) {
	l := rights()
	c := chance{1}
	for range 3000 {
		l = append(l, anyPolicy(&c))
	}
	for _, p := range l {
		text, e := policy.Print(p)
		if text != written(p) || e != api.OK {
			t.Errorf("Print: %.300q, %d; not %.300q", text, e, written(p))
		}
		parses(t, text, p)
		if again, _, _ := policy.Parse(text); !policy.Same(again, p) {
			t.Errorf("%.300q: not the same", text)
		}
	}
}

// spread tells a text with other blanks, and with notes and empty lines, and its numbers with figures of 16.
func spread(c *chance, text string) string {
	out := ""
	lines := strings.Split(strings.TrimSuffix(text, "\n"), "\n")
	for at, line := range lines {
		for range c.below(3) {
			out += one(c, []string{"\n", " \t\n", "# note\n", "\r\n", "#\x00\xff default kill\n"})
		}
		for n, word := range strings.Split(line, " ") {
			if v, err := strconv.ParseUint(word, 10, 64); err == nil && strings.Contains(line, " if ") && n > 3 && c.below(2) == 0 {
				word = "0x" + strconv.FormatUint(v, 16)
			}
			if n > 0 {
				out += one(c, []string{" ", "\t", "  ", "\r", " \t "})
			}
			out += word
		}
		out += one(c, []string{"", " ", "#", " # and a0 == 1", "\r", "\t# x32 on"})
		if at == 0 && !strings.Contains(text, "\nx32 on\n") && c.below(2) == 0 {
			out += "\n x32  off#"
		}
		if at+1 < len(lines) || c.below(2) == 0 {
			out += "\n"
		}
	}
	return out
}

// P14.3: what is parsed, printed, and parsed again, is the same, whatever blanks and notes it had; its own text stays as it is.
func TestBlanksAndNotes(t *testing.T) {
	c := chance{2}
	for range 3000 {
		p := anyPolicy(&c)
		text := spread(&c, written(p))
		parses(t, text, p)
		first, _, _ := policy.Parse(text)
		own, e := policy.Print(first)
		if own != written(p) || e != api.OK {
			t.Errorf("%.300q: %.300q, %d", text, own, e)
		}
		second, _, _ := policy.Parse(own)
		if !policy.Same(first, second) {
			t.Errorf("%.300q: not the same", text)
		}
	}
}

// facts is what is so of a line, asked apart: each a thing that the document names.
type facts struct {
	elsewhere, x32, name, tooMany, behind bool
	action, conds                         api.Errno
}

// factsOf tells a line's facts; place counts the lines ahead of it, rules those that were rules.
func factsOf(words []string, place, rules int) facts {
	var f facts
	f.elsewhere = (place == 0) == (words[0] != "default")
	if words[0] == "x32" {
		f.x32 = place != 1 || strings.Join(words, " ") != "x32 on" && strings.Join(words, " ") != "x32 off"
		return f
	}
	_, n, e := act.Read(words[1:])
	f.action = e
	if e == api.ErrEmpty {
		f.action = api.ErrForm
	}
	if words[0] == "default" {
		f.behind = e == api.OK && len(words) > 1+n
		return f
	}
	f.name = !slices.Contains(names, words[0])
	f.tooMany = rules >= 500
	if e == api.OK && len(words) > 1+n {
		f.behind = words[1+n] != "if"
		f.conds = condsFault(words[2+n:])
	}
	return f
}

// condsFault tells what is wrong of conditions, cut at each word `and`.
func condsFault(words []string) api.Errno {
	rest := append(slices.Clone(words), "and")
	for n := 1; len(rest) > 0; n++ {
		if n > 6 {
			return api.ErrLong
		}
		end := slices.Index(rest, "and")
		_, has, e := cond.Read(rest[:end])
		switch {
		case e == api.ErrRange:
			return e
		case e != api.OK || has != end:
			return api.ErrForm
		}
		rest = rest[end+1:]
	}
	return api.OK
}

// first tells a line's first error, in the document's order.
func (f facts) first() api.Errno {
	for _, c := range []struct {
		so bool
		e  api.Errno
	}{
		{f.elsewhere, api.ErrForm},
		{f.tooMany, api.ErrLong},
		{f.action != api.OK, f.action},
		{f.x32, api.ErrForm},
		{f.name, api.ErrForm},
		{f.behind, api.ErrForm},
		{f.conds != api.OK, f.conds},
	} {
		if c.so {
			return c.e
		}
	}
	return api.OK
}

// anyLine tells a line's words: put together of parts that may be, or not.
func anyLine(c *chance, at int) []string {
	pick := func(right []string, wrong ...string) string {
		if c.below(12) == 0 {
			return one(c, wrong)
		}
		return one(c, right)
	}
	first := pick(names, "default", "x32", "READ", "0", "a-b", "Default")
	if at == 0 {
		first = pick([]string{"default"}, "read", "x32", "READ")
	}
	if at == 1 && c.below(3) == 0 {
		first = "x32"
	}
	words := []string{first}
	if first == "x32" && c.below(8) > 0 {
		return append(words, strings.Fields(pick([]string{"on", "off"}, "maybe", "", "on on"))...)
	}
	words = append(words, strings.Fields(pick([]string{"allow", "kill", "errno 13", "trace 65535", "log"}, "deny", "", "errno", "errno 4096", "errno 01"))...)
	if first == "default" && c.below(12) > 0 || c.below(2) == 0 {
		return words
	}
	words = append(words, pick([]string{"if"}, "and", "when", "a0"))
	for n := range 1 + c.below(8) {
		if n > 0 {
			words = append(words, strings.Fields(pick([]string{"and"}, "or", "", "and and", "if"))...)
		}
		words = append(words, strings.Fields(pick([]string{cond.Text(anyCond(c, false)), "a5 & 0x7 == 4"}, "", "a6 == 1", "a0", "b", "a0 == x"))...)
	}
	return words
}

// P14.2: many texts, the first wrong line of which is told a second time, by what is so of it.
func TestParseTwice(t *testing.T) {
	c := chance{3}
	met := map[api.Errno]int{}
	for n := range 30000 {
		text, number, want := "", 0, api.OK
		count := 1 + c.below(4)
		rules := 0
		for at := range count {
			if at > 0 && n%50 == 0 && rules == 0 {
				text += strings.Repeat("read allow\n", 500)
				at, rules = at+500, 500
			}
			words := anyLine(&c, at)
			if want == api.OK {
				want = factsOf(words, at, rules).first()
				number = strings.Count(text, "\n") + 1
			}
			if words[0] != "x32" && words[0] != "default" {
				rules++
			}
			text += strings.Join(words, " ") + "\n"
		}
		met[want]++
		if want != api.OK {
			fails(t, text, number, want)
			continue
		}
		p, _, e := policy.Parse(text)
		if again, _ := policy.Print(p); e != api.OK || !policy.Right(p) || strings.Count(again, "\n") < count-1 {
			t.Errorf("Parse of %.300q: %s, %d", text, brief(p), e)
		}
	}
	for _, e := range []api.Errno{api.OK, api.ErrForm, api.ErrName, api.ErrRange, api.ErrLong} {
		if met[e] < 100 {
			t.Errorf("error %d met %d times", e, met[e])
		}
	}
}

// R1: texts of any words, and of any bytes, end in an answer of the kind that is listed.
func TestAnyText(t *testing.T) {
	words := strings.Split("default x32 on off if and kill allow errno 13 4096 read READ a0 a6 == & 3 0x3 #x \n \n \n \t \x00 \xff", " ")
	c := chance{4}
	for range 30000 {
		text := ""
		for range c.below(30) {
			text += one(&c, words) + " "
		}
		p, n, e := policy.Parse(text)
		switch {
		case e == api.OK && (n != 0 || !policy.Right(p)):
			t.Errorf("Parse of %q: %v, %d", text, p, n)
		case e != api.OK && (!equal(p, policy.Policy{}) || (n == 0) != (e == api.ErrEmpty)):
			t.Errorf("Parse of %q: %v, %d, %d", text, p, n, e)
		}
	}
}

// R4: what is handed in is not changed, the spare room behind its lists' ends neither.
func TestKeeps(t *testing.T) {
	spareConds := []cond.Cond{is(1), is(2), is(3)}
	spareRules := []policy.Rule{rule("read", allow), rule("write", kill), rule("spare", log)}
	spareRules[1].Conds = spareConds[:2]
	p := policy.Policy{Default: kill, Rules: spareRules[:2]}
	if text, e := policy.Print(p); text != "default kill\nread allow\nwrite kill if a0 == 1 and a0 == 2\n" || e != api.OK {
		t.Errorf("%q, %d", text, e)
	}
	policy.Right(p)
	policy.Same(p, p)
	if !slices.Equal(spareConds, []cond.Cond{is(1), is(2), is(3)}) || !equal(policy.Policy{Rules: spareRules}, policy.Policy{Rules: []policy.Rule{rule("read", allow), rule("write", kill, is(1), is(2)), rule("spare", log)}}) {
		t.Errorf("changed: %v, %v", spareConds, spareRules)
	}
}

// R4, R5: the lists that are handed out share nothing, with each other, or with those of another call.
func TestParseIsNew(t *testing.T) {
	const text = "default kill\nread allow if a0 == 1 and a0 == 2\nwrite kill if a0 == 3\nopen log if a0 == 4 and a0 == 5 and a0 == 6"
	want := policy.Policy{Default: kill, Rules: []policy.Rule{rule("read", allow, is(1), is(2)), rule("write", kill, is(3)), rule("open", log, is(4), is(5), is(6))}}
	first, _, _ := policy.Parse(text)
	for at := range first.Rules {
		_ = append(first.Rules[at].Conds, is(9))
		if !equal(first, want) {
			t.Fatalf("changed by a change behind rule %d: %v", at, first)
		}
	}
	for at := range first.Rules {
		clear(first.Rules[at].Conds)
		if rest := at + 1; !equal(policy.Policy{Rules: first.Rules[rest:]}, policy.Policy{Rules: want.Rules[rest:]}) {
			t.Fatalf("changed by a change of rule %d: %v", at, first)
		}
	}
	clear(first.Rules)
	parses(t, text, want)
	parses(t, text, want)
}
