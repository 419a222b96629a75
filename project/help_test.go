package project_test

import (
	"fmt"
	"slices"
	"strconv"
	"strings"
	"testing"

	"sigil/api"
	"sigil/bind"
	"sigil/encode"
	"sigil/loose"
	"sigil/project"
	"sigil/tree"
)

// words are the words of the types, by type.
var words = []string{"", "double", "float", "int32", "int64", "uint32", "uint64", "sint32", "sint64", "fixed32", "fixed64", "sfixed32", "sfixed64", "bool", "string", "bytes", "E", "M"}

// keyTypes are the types that a map's keys have.
var keyTypes = []int{api.TInt32, api.TInt64, api.TUint32, api.TUint64, api.TSint32, api.TSint64, api.TFixed32, api.TFixed64, api.TSfixed32, api.TSfixed64, api.TBool, api.TString}

// load is the schema of one text, without its syntax line.
func load(t testing.TB, text string) *bind.Schema {
	t.Helper()
	s, bad := bind.Load([]api.Source{{Name: "f", Text: `syntax = "proto3"; ` + text}})
	if bad.Err != api.OK {
		t.Fatalf("Load(%.300q): %+v", text, bad)
	}
	return s
}

func num(v int) api.Value              { return api.Value{Kind: api.VNum, Num: v} }
func text(v string) api.Value          { return api.Value{Kind: api.VText, Text: v} }
func msg(l ...api.Entry) api.Value     { return api.Value{Kind: api.VMessage, Fields: l} }
func at(i int, v api.Value) api.Entry  { return api.Entry{Number: i, Value: v} }
func one(i int, v api.Value) api.Value { return msg(at(i, v)) }
func list(l ...api.Value) api.Value    { return api.Value{Kind: api.VList, List: l} }
func dict(l ...api.Value) api.Value    { return api.Value{Kind: api.VMap, List: l} }
func pair(l ...api.Value) api.Value    { return api.Value{Kind: api.VPair, List: l} }

// chain puts a value into messages of a field, one in another.
func chain(n, number int, v api.Value) api.Value {
	for range n {
		v = one(number, v)
	}
	return v
}

// nested puts a value into lists, one in another.
func nested(n int, v api.Value) api.Value {
	for range n {
		v = list(v)
	}
	return v
}

// big is a text of so many bytes.
func big(n int) api.Value { return text(strings.Repeat("x", n)) }

// some tells the beginning of what may be long.
func some(s string) string { return s[:min(400, len(s))] }

// short tells a tree in not too many letters; what is deep or long is left out.
func short(v api.Value) string { return some(shortTo(v, 8)) }

func shortTo(v api.Value, levels int) string {
	if levels == 0 {
		return ".."
	}
	var b strings.Builder
	fmt.Fprintf(&b, "{%d %d %.20q", v.Kind, v.Num, v.Text)
	for i, in := range v.List[:min(8, len(v.List))] {
		fmt.Fprintf(&b, " %d:%s", i, shortTo(in, levels-1))
	}
	for _, in := range v.Fields[:min(8, len(v.Fields))] {
		fmt.Fprintf(&b, " %d:%s", in.Number, shortTo(in.Value, levels-1))
	}
	return b.String() + "}"
}

// way is two types of two schemas: the one wrote, the other reads.
type way struct {
	from  *bind.Schema
	wrote string
	to    *bind.Schema
	reads string
}

// of is the way between the types M of two texts.
func of(t testing.TB, old, now string) way { return between(t, old, "M", now, "M") }

// between is the way between types of two texts.
func between(t testing.TB, old, wrote, now, reads string) way {
	t.Helper()
	return way{load(t, old), wrote, load(t, now), reads}
}

// plan is a new plan of a way.
func (w way) plan(t testing.TB) *project.Plan {
	t.Helper()
	p, e := project.New(w.from, w.wrote, w.to, w.reads)
	if e != api.OK || p == nil {
		t.Fatalf("P1501: New(%q, %q) = %v", w.wrote, w.reads, e)
	}
	return p
}

// fails looks at the error of New, beside which there is no plan.
func (w way) fails(t *testing.T, want api.Errno) {
	t.Helper()
	if p, e := project.New(w.from, w.wrote, w.to, w.reads); e != want || p != nil {
		t.Errorf("P1501: New(%.20q, %.20q) = %v, %v, want %v", w.wrote, w.reads, p != nil, e, want)
	}
}

// decoded is what loose reads of what encode writes of a tree.
func (w way) decoded(t testing.TB, v api.Value) (api.Value, api.Errno) {
	t.Helper()
	b, e := encode.New(w.from).Encode(w.wrote, v)
	if e != api.OK {
		t.Fatalf("Encode(%s): %v", short(v), e)
	}
	out, _, e := loose.Decode(w.to, w.reads, b)
	return out, e
}

// becomes looks at what a new plan makes of a tree, what it tells as lost, and whether that is what is read.
func (w way) becomes(t *testing.T, v, want api.Value, lost ...string) {
	t.Helper()
	w.makes(t, w.plan(t), v, want, lost...)
}

// makes is becomes of a plan that there is.
func (w way) makes(t *testing.T, p *project.Plan, v, want api.Value, lost ...string) {
	t.Helper()
	got, e := p.Do(v)
	if e != api.OK || !tree.Equal(got, want) {
		t.Errorf("P1502: Do(%s) = %s, %v, want %s", short(v), short(got), e, short(want))
	}
	if l, e := p.Lost(v); e != api.OK || !slices.Equal(l, lost) {
		t.Errorf("P1503: Lost(%s) = %.20q, %v, want %.20q", short(v), l, e, lost)
	}
	if r, e := w.decoded(t, v); e != api.OK || !tree.Equal(r, want) {
		t.Errorf("P1505: %s is read as %s, %v, want %s", short(v), short(r), e, short(want))
	}
	if trail, e := tree.Normal(w.to, w.reads, got); e != api.OK {
		t.Errorf("P1506: Do(%s) = %s: %v at %v", short(v), short(got), e, trail)
	}
	if p.Whole() && len(lost) > 0 {
		t.Errorf("P1504: Whole, but %.20q are lost of %s", lost, short(v))
	}
}

// refuses looks at the error of a plan's calls, beside which nothing is told.
func refuses(t *testing.T, p *project.Plan, v api.Value, want api.Errno) {
	t.Helper()
	if got, e := p.Do(v); e != want || got.Kind != 0 || !tree.Equal(got, api.Value{}) {
		t.Errorf("P1502: Do(%s) = %s, %v, want %v", short(v), short(got), e, want)
	}
	if l, e := p.Lost(v); e != want || len(l) > 0 {
		t.Errorf("P1503: Lost(%s) = %d trails, %v, want %v", short(v), len(l), e, want)
	}
}

// numbers is a trail's numbers with dots between.
func numbers(trail []int) string {
	var l []string
	for _, n := range trail {
		l = append(l, strconv.Itoa(n))
	}
	return strings.Join(l, ".")
}

// missing is a second reading of P1503: the trails of what a message has and its reading has not, whatever their types are.
func missing(v, reading api.Value, trail ...int) []string {
	var l []string
	for _, in := range v.Fields {
		here := append(slices.Clone(trail), in.Number)
		i := slices.IndexFunc(reading.Fields, func(e api.Entry) bool { return e.Number == in.Number })
		if i < 0 {
			l = append(l, numbers(here))
			continue
		}
		r := reading.Fields[i].Value
		if r.Kind == api.VList && in.Value.Kind != api.VList {
			r = r.List[0]
		}
		l = append(l, missing(in.Value, r, here...)...)
	}
	for i, in := range v.List {
		step := i
		if v.Kind == api.VPair {
			step++
		}
		l = append(l, missing(in, reading.List[i], append(slices.Clone(trail), step)...)...)
	}
	return l
}

// ring is the text of so many messages, each of which holds the next one by the field 1; the first has others too.
func ring(letter string, n int, others string) string {
	var b strings.Builder
	for i := range n {
		fmt.Fprintf(&b, "message %[1]s%[2]d { %[1]s%[3]d m = 1; %[4]s } ", letter, i, (i+1)%n, others)
		others = ""
	}
	return b.String()
}
