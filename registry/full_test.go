package registry_test

import (
	"bytes"
	"fmt"
	"strings"
	"testing"

	"sigil/api"
	"sigil/registry"
)

func TestFullSubjects(t *testing.T) { // P1801: MaxSubjects subjects, and one more
	x := fresh(t)
	for i := range api.MaxSubjects {
		x.registers(fmt.Sprint("s", i), fileA, "M", 1, api.OK)
	}
	for i := range api.MaxSubjects {
		x.drops(fmt.Sprint("s", i), 1, api.OK) // a subject stays, whatever is dropped
	}
	for range 2 {
		x.tries("one more", fileA, "M", api.Break{}, api.OK)
		x.registers("one more", fileA, "M", 0, api.ErrFull)
		x.registers("\x00", fileC, "M", 0, api.ErrFull)
		x.refuses("one more", fileA, "N", api.ErrName)
		x.refuses("one more", src("x"), "N", api.ErrSyntax)
		x.refuses("", fileA, "M", api.ErrSubject)
		x.rules("one more", 9, api.ErrSubject)
		x.drops("one more", 1, api.ErrSubject)
		x = x.again()
	}
	for i := range api.MaxSubjects {
		x.registers(fmt.Sprint("s", i), fileC, "M", 2, api.OK)
	}
	x.registers("one more", fileA, "M", 0, api.ErrFull)
	x.again()
}

func TestFullVersions(t *testing.T) { // P1801: MaxVersions versions, dropped ones too, and one more
	x := fresh(t)
	at := func(n int) []api.Source { return src(fmt.Sprintf("message M { int32 a%d = 1; }", n)) }
	for i := range api.MaxVersions {
		n, e := x.r.Register("s", at(i), "M")
		if k, why := x.s.register("s", at(i), "M"); n != k || e != why || n != i+1 {
			t.Fatalf("P1801: %d, %v, want %d, %v", n, e, k, why)
		}
	}
	x.alike()
	for range 2 {
		x.tries("s", at(300), "M", api.Break{}, api.OK)
		x.registers("s", at(300), "M", 0, api.ErrFull)
		x.registers("s", at(255), "M", 256, api.OK) // it is there
		x.registers("s", at(0), "M", 1, api.OK)
		x.breaks("s", fileC, "M", api.Break{Rule: api.BType, Path: []int{1}, Old: "M", New: "M"}) // the rule goes ahead
		x.refuses("s", fileC, "N", api.ErrName)
		x = x.again()
	}
	x.registers("t", at(0), "M", 1, api.OK)
	x.drops("s", 256, api.OK)
	if log := x.r.Log(); !bytes.HasSuffix(log[:len(log)-4], []byte("\x03\x00\x00\x00\x01\x00\x00\x00\x03\x01\x00\x00\x00s\x02\x00\x00\x00\x00\x01")) {
		t.Errorf("P1806: the record of a Drop of the version 256: %x", log[len(log)-40:])
	}
	x.drops("s", 1, api.OK)
	x.drops("s", 17, api.OK)
	x.drops("s", 257, api.ErrVersion)
	for _, n := range []int{255, 0, 16} { // dropped ones count, so these can't come again
		x.registers("s", at(n), "M", 0, api.ErrFull)
	}
	x.rules("s", api.RFullAll, api.OK)
	x.breaks("s", fileB, "M", api.Break{Rule: api.BType, Path: []int{1}, Old: "M", New: "M"})
	x.registers("s", at(300), "M", 0, api.ErrFull)
	x.again()
}

func TestFullBehindBreaks(t *testing.T) { // P1801: too many pairs of types are told ahead of what is full
	x := history(t, api.RNone, nil, offer{ring("A", 64, ""), "A0"})
	for i := range api.MaxVersions - 1 {
		files := src(fmt.Sprintf("message M { reserved %d to max; }", i+1))
		x.r.Register("s", files, "M")
		x.s.register("s", files, "M")
	}
	b := src(ring("B", 65, ""))
	x.registers("s", b, "B0", 0, api.ErrFull)
	x.rules("s", api.RBackwardAll, api.OK)
	x.refuses("s", b, "B0", api.ErrBreaks)
	x.again()
}

// sized is sources whose Register for the subject "s" with the type "pa.M" has a record of just so many bytes; with another tag they are others.
func sized(tag, size int) []api.Source {
	files := 1 + size/65000
	room := size - 16 - 4 - (4 + 1) - (4 + 1) - (4 + 4) // of the sources
	var l []api.Source
	for i := range files {
		share := room / (files - i)
		room -= share
		name := fmt.Sprintf("p%c", 'a'+i)
		l = append(l, api.Source{Name: name, Text: sizedText(tag, name, share-8-len(name))})
	}
	return l
}

// sizedText is a canonical text of just so many bytes.
func sizedText(tag int, name string, size int) string {
	var b strings.Builder
	fmt.Fprintf(&b, "syntax = \"proto3\";\npackage %s;\nmessage M {\n", name)
	room := size - b.Len() - len("}\n")
	const most = 250
	lines := (room + most - 1) / most
	for i := range lines {
		share := room / (lines - i)
		room -= share
		field := fmt.Sprintf("t%d_%d_", tag, i)
		line := fmt.Sprintf("  int32 %s = %d;\n", field, i+1)
		b.WriteString(strings.Replace(line, field, field+strings.Repeat("x", share-len(line)), 1))
	}
	b.WriteString("}\n")
	return b.String()
}

// fuller fills a log, and looks at its bytes by those of the records.
type fuller struct {
	t    *testing.T
	r    *registry.Registry
	done int
	log  []byte
}

// took looks whether just the record of this was written.
func (f *fuller) took(d deed, e api.Errno) {
	f.t.Helper()
	if e != api.OK {
		f.t.Fatalf("P1801: %v behind %d bytes", e, len(f.log))
	}
	f.log = append(f.log, record(f.done, d.content())...)
	f.done++
	f.logs()
}

func (f *fuller) logs() {
	f.t.Helper()
	if b := f.r.Log(); !bytes.Equal(b, f.log) {
		f.t.Fatalf("P1806: a log of %d bytes, want %d", len(b), len(f.log))
	}
}

// room is how many bytes are left.
func (f *fuller) room() int { return api.MaxLog - len(f.log) }

// register registers sources of that size.
func (f *fuller) register(size int) {
	f.t.Helper()
	files := sized(f.done, size)
	before := len(f.log)
	_, e := f.r.Register("s", files, "pa.M")
	f.took(deed{act: 1, subject: "s", edition: edition{Version: api.Version{Type: "pa.M", Files: files}}}, e)
	if len(f.log) != before+size {
		f.t.Fatalf("a record of %d bytes, not %d", len(f.log)-before, size)
	}
}

func TestFullLog(t *testing.T) { // P1801, P1803, P1806, P1807: a log of MaxLog bytes, and what would make it longer
	r, _, _ := registry.Open(nil)
	f := &fuller{t: t, r: r, log: []byte(head)}
	const ruled, dropped = 35, 36 // the records of a Rule and of a Drop
	f.register(200)
	f.took(deed{act: 2, subject: "s", number: api.RNone}, r.Rule("s", api.RNone))
	for f.room() > 2<<20 {
		f.register(16 * 62000)
	}
	for f.room() > 65000 {
		f.register(60000)
	}
	full := func(files []api.Source) {
		t.Helper()
		if n, e := r.Register("s", files, "pa.M"); n != 0 || e != api.ErrFull {
			t.Errorf("P1801: Register with %d bytes left = %d, %v", f.room(), n, e)
		}
		if b, e := r.Try("s", files, "pa.M"); e != api.OK || b.Rule != 0 {
			t.Errorf("P1802: Try with %d bytes left = %v, %v", f.room(), b, e)
		}
		f.logs()
	}
	full(sized(1000, f.room()+1))
	full(sized(1000, f.room()+1000))
	f.register(f.room() - ruled - dropped)
	full(fileOf("pa", "int32 a = 1;"))
	f.took(deed{act: 3, subject: "s", number: 1}, r.Drop("s", 1))
	refused(t, f, map[string]api.Errno{"drop": api.ErrFull, "rule": api.OK, "register": api.ErrFull, "refused": api.ErrFull})
	f.took(deed{act: 2, subject: "s", number: api.RBackward}, r.Rule("s", api.RBackward))
	if f.room() != 0 {
		t.Fatal(f.room())
	}
	after := map[string]api.Errno{"drop": api.ErrFull, "rule": api.ErrFull, "register": api.ErrRefused, "refused": api.ErrRefused}
	refused(t, f, after)
	again, n, e := registry.Open(f.log)
	if e != api.OK || n != api.MaxLog || !sameList(again.List(), r.List()) {
		t.Fatalf("P1807: Open of a log of MaxLog bytes = %d, %v", n, e)
	}
	old := f.r
	f.r = again
	refused(t, f, after)
	for _, v := range []int{1, 2, f.done - 3} {
		a, _ := old.Get("s", v)
		if b, e := again.Get("s", v); e != api.OK || !sameVersion(a, b) {
			t.Errorf("P1807: the version %d: %v", v, e)
		}
	}
	openRefuses(t, append(f.log, 0), api.ErrLong)
}

// fileOf is a source of one message M of a package.
func fileOf(name, fields string) []api.Source {
	return src(fmt.Sprintf("package %s; message M { %s }", name, fields))
}

// refused looks at what is answered where the log has room for a Rule at most, in what order.
func refused(t *testing.T, f *fuller, want map[string]api.Errno) {
	t.Helper()
	look := func(what string, got, want api.Errno) {
		t.Helper()
		if got != want {
			t.Errorf("P1801, P1803: %s with %d bytes left: %v, want %v", what, f.room(), got, want)
		}
	}
	rule := f.r.List()[0].Rule
	look("drop", f.r.Drop("s", 2), want["drop"])
	look("drop", f.r.Drop("s", 1), api.ErrGone)
	look("drop", f.r.Drop("s", 200), api.ErrVersion)
	look("drop", f.r.Drop("t", 1), api.ErrSubject)
	look("drop", f.r.Drop(long(256), 1), api.ErrLong)
	look("rule", f.r.Rule("s", rule), api.OK)
	look("rule", f.r.Rule("s", 7), api.ErrRule)
	look("rule", f.r.Rule("t", 0), api.ErrSubject)
	if want["rule"] != api.OK {
		look("rule", f.r.Rule("s", (rule+1)%7), want["rule"])
	}
	_, e := f.r.Register("s", fileOf("pa", "int64 a = 1; reserved 7;"), "pa.M")
	look("register", e, want["register"])
	_, e = f.r.Register("s", fileOf("pa", "string a = 1;"), "pa.M")
	look("refused", e, want["refused"])
	_, e = f.r.Register("t", fileC, "M")
	look("another subject", e, api.ErrFull)
	_, e = f.r.Register("t", fileC, "N")
	look("no type", e, api.ErrName)
	if v, _ := f.r.Get("s", 2); v.Number == 2 {
		n, e := f.r.Register("s", v.Files, "pa.M")
		look("what is there", e, api.OK)
		if n != 2 {
			t.Errorf("P1801: %d", n)
		}
	}
	f.logs()
}
