package registry_test

import (
	"bytes"
	"fmt"
	"slices"
	"strings"
	"testing"

	"sigil/api"
	"sigil/bind"
	"sigil/registry"
)

const (
	proto = `syntax = "proto3"; `
	head  = "sigregs\x01"
)

// src is one source, of a text without its syntax line.
func src(text string) []api.Source { return []api.Source{{Name: "a", Text: proto + text}} }

// The sources of the chapter's examples.
var (
	fileA = src("message M { int32 a = 1; }")
	fileB = src("message M { int64 a = 1; string b = 2; }")
	fileC = src("message M { string a = 1; }")
)

// long is a name of so many bytes.
func long(n int) string { return strings.Repeat("s", n) }

// ring is the text of so many messages, each of which holds the next one by the field 1, of that card.
func ring(letter string, n int, card string) string {
	var b strings.Builder
	for i := range n {
		fmt.Fprintf(&b, "message %[1]s%[2]d { %[4]s %[1]s%[3]d m = 1; } ", letter, i, (i+1)%n, card)
	}
	return b.String()
}

func num(v int) api.Value             { return api.Value{Kind: api.VNum, Num: v} }
func text(v string) api.Value         { return api.Value{Kind: api.VText, Text: v} }
func msg(l ...api.Entry) api.Value    { return api.Value{Kind: api.VMessage, Fields: l} }
func at(i int, v api.Value) api.Entry { return api.Entry{Number: i, Value: v} }
func list(l ...api.Value) api.Value   { return api.Value{Kind: api.VList, List: l} }
func dict(l ...api.Value) api.Value   { return api.Value{Kind: api.VMap, List: l} }
func pair(l ...api.Value) api.Value   { return api.Value{Kind: api.VPair, List: l} }

// same says whether two trees are the same in all that they hold.
func same(x, y api.Value) bool {
	return x.Kind == y.Kind && x.Num == y.Num && x.Text == y.Text && slices.EqualFunc(x.List, y.List, same) &&
		slices.EqualFunc(x.Fields, y.Fields, func(x, y api.Entry) bool { return x.Number == y.Number && same(x.Value, y.Value) })
}

func sameBreak(x, y api.Break) bool {
	return x.Rule == y.Rule && slices.Equal(x.Path, y.Path) && x.Old == y.Old && x.New == y.New
}

func sameVersion(x, y api.Version) bool {
	return x.Number == y.Number && slices.Equal(x.Files, y.Files) && x.Type == y.Type && bytes.Equal(x.Print, y.Print) && x.Gone == y.Gone
}

func sameList(x, y []api.Subject) bool {
	return slices.EqualFunc(x, y, func(x, y api.Subject) bool {
		return x.Name == y.Name && x.Rule == y.Rule && slices.Equal(x.Versions, y.Versions)
	})
}

// some tells the beginning of what may be long.
func some(v any) string { return fmt.Sprintf("%.300s", fmt.Sprintf("%+v", v)) }

// load is the schema of sources.
func load(t testing.TB, files []api.Source) *bind.Schema {
	t.Helper()
	s, bad := bind.Load(files)
	if bad.Err != api.OK {
		t.Fatalf("Load(%s): %+v", some(files), bad)
	}
	return s
}

// twin is a registry beside a second reading of the chapter: whatever the one answers, the other must answer too.
type twin struct {
	t testing.TB
	r *registry.Registry
	s *second
}

// opened opens a log by both.
func opened(t testing.TB, log []byte) twin {
	t.Helper()
	r, n, e := registry.Open(log)
	s, want, why := secondOpen(log)
	if e != why || n != want || r == nil {
		t.Fatalf("P1806: Open of %d bytes = %d, %v, want %d, %v", len(log), n, e, want, why)
	}
	x := twin{t, r, s}
	x.logs()
	return x
}

// fresh is a registry without subjects.
func fresh(t testing.TB) twin {
	t.Helper()
	return opened(t, nil)
}

// openRefuses looks at the error of Open.
func openRefuses(t *testing.T, log []byte, want api.Errno) {
	t.Helper()
	if r, n, e := registry.Open(log); r != nil || n != 0 || e != want {
		t.Errorf("P1806: Open of %d bytes = %v, %d, %v, want %v", len(log), r != nil, n, e, want)
	}
}

// holds looks at how many bytes of a log hold, and at the whole registry that they make.
func holds(t testing.TB, log []byte, n int) twin {
	t.Helper()
	x := opened(t, log)
	want := log[:n]
	if n < len(head) {
		want = []byte(head)
	}
	if len(x.s.log) != len(want) || !bytes.Equal(x.r.Log(), want) {
		t.Fatalf("P1806: of %d bytes %d hold, want %d", len(log), len(x.s.log), n)
	}
	x.alike()
	return x
}

// logs looks at the log.
func (x twin) logs() {
	x.t.Helper()
	if b := x.r.Log(); !bytes.Equal(b, x.s.log) {
		x.t.Fatalf("P1806: Log = %d bytes, want %d", len(b), len(x.s.log))
	}
}

// register registers with both, behind a Try.
func (x twin) register(subject string, files []api.Source, name string) (int, api.Errno) {
	x.t.Helper()
	b, e := x.try(subject, files, name)
	n, why := x.r.Register(subject, files, name)
	if k, want := x.s.register(subject, files, name); n != k || why != want {
		x.t.Fatalf("P1801: Register(%.20q, %s, %.20q) = %d, %v, want %d, %v", subject, some(files), name, n, why, k, want)
	}
	if (why == api.ErrRefused) != (e == api.OK && b.Rule != 0) || (why == api.ErrBreaks) != (e == api.ErrBreaks) {
		x.t.Fatalf("P1811: Register is %v where Try is %+v, %v", why, b, e)
	}
	x.logs()
	return n, why
}

// try tries with both.
func (x twin) try(subject string, files []api.Source, name string) (api.Break, api.Errno) {
	x.t.Helper()
	b, e := x.r.Try(subject, files, name)
	if want, why := x.s.try(subject, files, name); e != why || !sameBreak(b, want) {
		x.t.Fatalf("P1802: Try(%.20q, %s, %.20q) = %+v, %v, want %+v, %v", subject, some(files), name, b, e, want, why)
	}
	x.logs()
	return b, e
}

// read reads with both.
func (x twin) read(subject string, wrote, reads int, message []byte) (api.Value, api.Errno) {
	x.t.Helper()
	v, e := x.r.Read(subject, wrote, reads, message)
	if want, why := x.s.read(subject, wrote, reads, message); e != why || !same(v, want) {
		x.t.Fatalf("P1805: Read(%.20q, %d, %d, %.50x) = %s, %v, want %s, %v", subject, wrote, reads, message, some(v), e, some(want), why)
	}
	x.logs()
	return v, e
}

// registers looks at what Register answers.
func (x twin) registers(subject string, files []api.Source, name string, want int, why api.Errno) {
	x.t.Helper()
	if n, e := x.register(subject, files, name); n != want || e != why {
		x.t.Errorf("P1801: Register(%.20q, %s, %.20q) = %d, %v, want %d, %v", subject, some(files), name, n, e, want, why)
	}
}

// tries looks at what Try answers.
func (x twin) tries(subject string, files []api.Source, name string, want api.Break, why api.Errno) {
	x.t.Helper()
	if b, e := x.try(subject, files, name); e != why || !sameBreak(b, want) {
		x.t.Errorf("P1802: Try(%.20q, %s, %.20q) = %+v, %v, want %+v, %v", subject, some(files), name, b, e, want, why)
	}
}

// refuses looks at the error that Register and Try answer.
func (x twin) refuses(subject string, files []api.Source, name string, why api.Errno) {
	x.t.Helper()
	x.tries(subject, files, name, api.Break{}, why)
	x.registers(subject, files, name, 0, why)
}

// breaks looks at a break that Try tells, and by which Register refuses.
func (x twin) breaks(subject string, files []api.Source, name string, want api.Break) {
	x.t.Helper()
	x.tries(subject, files, name, want, api.OK)
	x.registers(subject, files, name, 0, api.ErrRefused)
}

// rules looks at what Rule answers.
func (x twin) rules(subject string, rule int, want api.Errno) {
	x.t.Helper()
	e, why := x.r.Rule(subject, rule), x.s.setRule(subject, rule)
	if e != why || e != want {
		x.t.Fatalf("P1803: Rule(%.20q, %d) = %v, want %v, %v", subject, rule, e, want, why)
	}
	x.logs()
}

// drops looks at what Drop answers.
func (x twin) drops(subject string, version int, want api.Errno) {
	x.t.Helper()
	e, why := x.r.Drop(subject, version), x.s.drop(subject, version)
	if e != why || e != want {
		x.t.Fatalf("P1803: Drop(%.20q, %d) = %v, want %v, %v", subject, version, e, want, why)
	}
	x.logs()
}

// reads looks at what Read answers.
func (x twin) reads(subject string, wrote, reads int, message []byte, want api.Value, why api.Errno) {
	x.t.Helper()
	if v, e := x.read(subject, wrote, reads, message); e != why || !same(v, want) {
		x.t.Errorf("P1805: Read(%.20q, %d, %d, %.50x) = %s, %v, want %s, %v", subject, wrote, reads, message, some(v), e, some(want), why)
	}
}

// alike looks at all that is told of what is there, and of what is beside it.
func (x twin) alike() {
	x.t.Helper()
	if l, want := x.r.List(), x.s.list(); !sameList(l, want) {
		x.t.Fatalf("P1804: List = %s, want %s", some(l), some(want))
	}
	for _, name := range append(x.s.names(), "not there", "", long(256)) {
		numbers := []int{-1, 0, 1, 257}
		for _, v := range x.s.editions(name) {
			numbers = append(numbers, v.Number, v.Number+1)
			x.finds(v.Print)
		}
		for _, n := range numbers {
			v, e := x.r.Get(name, n)
			if want, why := x.s.get(name, n); e != why || !sameVersion(v, want) {
				x.t.Fatalf("P1804: Get(%.20q, %d) = %s, %v, want %s, %v", name, n, some(v), e, some(want), why)
			}
		}
	}
	x.finds(make([]byte, 32))
	x.logs()
}

// finds looks at what Find answers of a print.
func (x twin) finds(print []byte) {
	x.t.Helper()
	if l, e := x.r.Find(print); e != api.OK || !slices.Equal(l, x.s.find(print)) {
		x.t.Fatalf("P1804: Find(%x) = %v, %v, want %v", print, l, e, x.s.find(print))
	}
}

// again opens what the registry wrote: all bytes hold, and it is the same registry.
func (x twin) again() twin {
	x.t.Helper()
	log := x.r.Log()
	r, n, e := registry.Open(log)
	if e != api.OK || n != len(log) {
		x.t.Fatalf("P1807: Open of a log of %d bytes = %d, %v", len(log), n, e)
	}
	y := twin{x.t, r, x.s}
	y.alike()
	return y
}
