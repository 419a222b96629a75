package compat_test

import (
	"fmt"
	"slices"
	"strconv"
	"strings"
	"testing"

	"sigil/api"
	"sigil/bind"
	"sigil/compat"
)

// words are the words of the types, by type.
var words = []string{"", "double", "float", "int32", "int64", "uint32", "uint64", "sint32", "sint64", "fixed32", "fixed64", "sfixed32", "sfixed64", "bool", "string", "bytes", "E", "M"}

// keyTypes are the types that a map's keys have.
var keyTypes = []int{api.TInt32, api.TInt64, api.TUint32, api.TUint64, api.TSint32, api.TSint64, api.TFixed32, api.TFixed64, api.TSfixed32, api.TSfixed64, api.TBool, api.TString}

// load is the schema of one text, without its syntax line.
func load(t testing.TB, text string) *bind.Schema {
	t.Helper()
	s, bad := bind.Load([]api.Source{{Name: "f", Text: `syntax = "proto3"; ` + text}})
	if bad.Err != api.OK {
		t.Fatalf("Load(%.300q): %+v", text, bad)
	}
	return s
}

// side is a type of a schema.
type side struct {
	s    *bind.Schema
	name string
}

// question is two types of two schemas: the one wrote, the other reads.
type question struct{ old, now side }

// of is the question about the type M of two texts.
func of(t testing.TB, old, now string) question { return between(t, old, "M", now, "M") }

// between is the question about types of two texts.
func between(t testing.TB, old, wrote, now, reads string) question {
	t.Helper()
	return question{side{load(t, old), wrote}, side{load(t, now), reads}}
}

func (q question) check() (api.Break, api.Errno) {
	return compat.Check(q.old.s, q.old.name, q.now.s, q.now.name)
}

func (q question) all() ([]api.Break, api.Errno) {
	return compat.All(q.old.s, q.old.name, q.now.s, q.now.name)
}

func (q question) pairs() ([]api.Pair, api.Errno) {
	return compat.Pairs(q.old.s, q.old.name, q.now.s, q.now.name)
}

// rules are the words that the tests have for rules, by rule.
var rules = []string{"fine", "gone", "type", "card", "key", "oneof", "message"}

// numbers is a path's numbers with dots between.
func numbers(path []int) string {
	var l []string
	for _, n := range path {
		l = append(l, strconv.Itoa(n))
	}
	return strings.Join(l, ".")
}

// told tells a break: `type N>N 1.7`. It does not ask Say.
func told(b api.Break) string {
	if b.Rule == 0 && b.Old == "" && b.New == "" && len(b.Path) == 0 {
		return "fine"
	}
	if b.Rule < 1 || b.Rule >= len(rules) {
		return fmt.Sprintf("%+v", b)
	}
	return rules[b.Rule] + " " + b.Old + ">" + b.New + " " + numbers(b.Path)
}

// toldAll tells breaks, one behind the other.
func toldAll(l []api.Break) string {
	var out []string
	for _, b := range l {
		out = append(out, told(b))
	}
	return strings.Join(out, ", ")
}

// toldPairs tells pairs: `M>M , N>N 1`.
func toldPairs(l []api.Pair) string {
	var out []string
	for _, p := range l {
		out = append(out, p.Old+">"+p.New+" "+numbers(p.Path))
	}
	return strings.Join(out, ", ")
}

// some tells the beginning of what may be long.
func some(s string) string { return s[:min(400, len(s))] }

// breaks looks at all breaks of a question, and at what Check tells of them. No want: it is fine.
func (q question) breaks(t *testing.T, want ...string) {
	t.Helper()
	l, e := q.all()
	if e != api.OK || toldAll(l) != strings.Join(want, ", ") {
		t.Errorf("P1404: All = %q, %v, want %q", some(toldAll(l)), e, some(strings.Join(want, ", ")))
	}
	first := "fine"
	if len(want) > 0 {
		first = want[0]
	}
	if b, e := q.check(); e != api.OK || told(b) != first {
		t.Errorf("P1405: Check = %q, %v, want %q", told(b), e, first)
	}
}

// meets looks at the pairs of a question.
func (q question) meets(t *testing.T, want ...string) {
	t.Helper()
	if l, e := q.pairs(); e != api.OK || toldPairs(l) != strings.Join(want, ", ") {
		t.Errorf("P1403: Pairs = %q, %v, want %q", some(toldPairs(l)), e, some(strings.Join(want, ", ")))
	}
}

// refuses looks at the error of all three calls, beside which nothing is told.
func (q question) refuses(t *testing.T, want api.Errno) {
	t.Helper()
	if b, e := q.check(); e != want || told(b) != "fine" {
		t.Errorf("P1401: Check(%.20q, %.20q) = %q, %v, want %v", q.old.name, q.now.name, told(b), e, want)
	}
	if l, e := q.all(); e != want || len(l) > 0 {
		t.Errorf("P1401: All(%.20q, %.20q) = %d breaks, %v, want %v", q.old.name, q.now.name, len(l), e, want)
	}
	if l, e := q.pairs(); e != want || len(l) > 0 {
		t.Errorf("P1401: Pairs(%.20q, %.20q) = %d pairs, %v, want %v", q.old.name, q.now.name, len(l), e, want)
	}
}

// ring is the text of so many messages, each of which holds the next one by the field 1; the first has others too.
func ring(letter string, n int, others string) string {
	var b strings.Builder
	for i := range n {
		fmt.Fprintf(&b, "message %[1]s%[2]d { %[1]s%[3]d m = 1; %[4]s } ", letter, i, (i+1)%n, others)
		others = ""
	}
	return b.String()
}

// sorted is a sorted copy of a list.
func sorted(l []string) []string { return slices.Sorted(slices.Values(l)) }

// bindAll is the schema of many texts, each behind its name.
func bindAll(l ...string) (*bind.Schema, api.Fault) {
	var sources []api.Source
	for i := 0; i < len(l); i += 2 {
		sources = append(sources, api.Source{Name: l[i], Text: `syntax = "proto3"; ` + l[i+1]})
	}
	return bind.Load(sources)
}

// wide is the text of a schema that has every type with every card, every key, and members of oneofs.
func wide() string {
	var b strings.Builder
	b.WriteString("enum E { Z = 0; } message N { M m = 1; map<bool, N> n = 2; } message M {")
	for typ := api.TDouble; typ <= api.TMessage; typ++ {
		fmt.Fprintf(&b, "%[1]s s%[2]d = %[2]d; optional %[1]s o%[2]d = 2%02[2]d; repeated %[1]s r%[2]d = 3%02[2]d; map<string, %[1]s> m%[2]d = 4%02[2]d; oneof u%[2]d { %[1]s x%[2]d = 5%02[2]d; N n%[2]d = 6%02[2]d; }", words[typ], typ)
	}
	for _, key := range keyTypes {
		fmt.Fprintf(&b, "map<%s, N> k%d = 7%02d;", words[key], key, key)
	}
	return b.String() + "}"
}
