package view_test

import (
	"strings"
	"testing"

	"sigil/api"
	"sigil/path"
)

// broken is a message of which every field is at fault that may be; so no question may look into anything without telling.
const broken = "12 01 ff 1a 01 80 22 01 08 3a 01 00 08 05"

func TestPathsRefused(t *testing.T) { // what path.Parse refuses every question refuses, ahead of all else
	for p, want := range map[string]api.Errno{
		"a.": api.ErrStep, ".a": api.ErrStep, "[0]": api.ErrStep, "c[01]": api.ErrStep, "c[1": api.ErrStep, "c[-0]": api.ErrStep, "c[]": api.ErrStep, " a": api.ErrStep, "a b": api.ErrStep, "c[ 0]": api.ErrStep, "d[k]": api.ErrStep, `d["k]`: api.ErrStep, `d['k']`: api.ErrStep, "a..b": api.ErrStep, "é": api.ErrStep, "1": api.ErrStep, "\x00": api.ErrStep, `d["\q"]`: api.ErrStep, "c[0]a": api.ErrStep,
		"a.a": api.ErrInto, "c.a": api.ErrInto, "d.a": api.ErrInto, "a[0]": api.ErrInto, "g[0]": api.ErrInto, `b["k"]`: api.ErrInto, "c[0].a": api.ErrInto, "c[0][0]": api.ErrInto, `d["k"]["k"]`: api.ErrInto, "f.a": api.ErrInto,
		"z": api.ErrNoField, "A": api.ErrNoField, "g.z": api.ErrNoField, `d["k"].z`: api.ErrNoField, "o": api.ErrNoField, strings.Repeat("x", api.MaxName): api.ErrNoField, strings.Repeat("x", api.MaxName+1): api.ErrStep,
		"c[-1]": api.ErrIndex, "c[4194304]": api.ErrIndex, "c[true]": api.ErrIndex, `c["0"]`: api.ErrIndex, "c[99999999999999999999]": api.ErrIndex,
		"d[1]": api.ErrKeyText, "d[true]": api.ErrKeyText, `d["\xff"]`: api.ErrKeyText,
		strings.Repeat("g.", api.MaxPath/2) + "gg": api.ErrLong, strings.Repeat("?", api.MaxPath+1): api.ErrLong, "z" + strings.Repeat(".z", api.MaxPath/2): api.ErrNoField,
	} {
		if _, e := path.Parse(smallSchema(), "p.M", p); e != want {
			t.Fatalf("Parse(%.40q): %v, want %v", p, e, want)
		}
		for _, b := range []string{"", broken, "3a 02 08 05 18 02 22 00"} {
			opens(t, b).fails(t, p, want)
		}
	}
	v := open(t, wideSchema(), "w.W", nil)
	for p, want := range map[string]api.Errno{
		"k3[2147483648]": api.ErrKeyText, "k3[true]": api.ErrKeyText, `k3["1"]`: api.ErrKeyText, "k5[-1]": api.ErrKeyText, "k6[18446744073709551616]": api.ErrKeyText, "k13[1]": api.ErrKeyText, "k13[2]": api.ErrKeyText, "k14[1]": api.ErrKeyText,
		"s1.s1": api.ErrInto, "o16[0]": api.ErrInto, "s17[0]": api.ErrInto, "m17.s3": api.ErrInto, "r17.s3": api.ErrInto, "s0": api.ErrNoField, "v.b": api.ErrNoField, "u.o": api.ErrNoField,
	} {
		v.fails(t, p, want)
	}
}

func TestViewsParseByTheirOwnType(t *testing.T) { // path.Parse's errors are those of the view's type
	v := open(t, wideSchema(), "w.W", rows(record(ofV, record(2, row("18 05")), row("08 02")), record(ofU, row("2a 01 78"))))
	in, _, e := v.At("v")
	if e != api.OK {
		t.Fatal(e)
	}
	g := glass{in, wideSchema(), "w.V", rows(record(2, row("18 05")), row("08 02"))}
	g.scalar(t, "a", num(1))
	g.scalar(t, "w.s3", num(5))
	g.fails(t, "s3", api.ErrNoField)
	g.fails(t, "v", api.ErrNoField)
	in, _, e = v.At("u")
	if e != api.OK {
		t.Fatal(e)
	}
	g = glass{in, wideSchema(), "w.U", row("2a 01 78")}
	g.scalar(t, "b", text("x"))
	g.fails(t, "w", api.ErrNoField)
	// The longer path may be too long where the shorter one is not.
	long := "s17" + strings.Repeat(".s17", 255)
	v.message(t, long, nil, nil)
	v.fails(t, long+".s17", api.ErrLong)
	v = open(t, wideSchema(), "w.W", record(api.TMessage, row("18 05")))
	if in, _, e = v.At("s17"); e != api.OK {
		t.Fatal(e)
	}
	glass{in, wideSchema(), "w.W", row("18 05")}.message(t, long, nil, nil)
}

func TestNoSteps(t *testing.T) { // P2102 to P2107: the path without steps in every question: nothing is looked into but by Get
	for _, c := range []struct {
		b   string
		got any
	}{{"", msg()}, {"08 05", one(1, num(5))}, {broken, api.ErrUtf8}, {"1a 01 80 12 01 ff", api.ErrEnds}, {"3a 01 00 22 01 08", api.ErrNumber}, {"43 08 07 44", msg()}} {
		opens(t, c.b).message(t, "", c.got, c.b)
		v := open(t, smallSchema(), "p.M", record(7, row(c.b)))
		in, ok, e := v.At("g")
		if in == nil || !ok || e != api.OK {
			t.Fatalf("P2106: %v, %v", ok, e)
		}
		glass{in, smallSchema(), "p.M", row(c.b)}.message(t, "", c.got, c.b)
	}
	// A view may be asked of what its own look refuses.
	v := opens(t, "3a 02 08 80")
	in, _, _ := v.At("g")
	g := glass{in, smallSchema(), "p.M", row("08 80")}
	g.message(t, "", api.ErrEnds, "08 80")
	g.scalar(t, "b", api.ErrEnds)
	again, ok, e := in.At("")
	if again == nil || again == in || !ok || e != api.OK {
		t.Errorf("P2106: At(\"\") of a view: %v, %v, %v", again == in, ok, e)
	}
	glass{again, smallSchema(), "p.M", row("08 80")}.message(t, "", api.ErrEnds, "08 80")
}

func TestByTheTypeAlone(t *testing.T) { // P2104 to P2107: ErrWhole and ErrNoMessage come ahead of what lies in the bytes, and of what is not there
	for _, b := range []string{"", broken, "3a 01 00 22 01 08", "22 01 00", "1a 01 80"} {
		v := opens(t, b)
		for _, p := range []string{"", "a", "b", "e", "f", "g", "c[0]", "c[9]", `d["k"]`, `d["k"].a`, "g.g", "g.a", "g.c[1]", `g.d["k"].g`, "g.g.g.e", `d["k"].c[3]`} {
			if n, e := v.Len(p); n != 0 || e != api.ErrWhole {
				t.Errorf("P2104: %s: Len(%q) = %d, %v", b, p, n, e)
			}
			if all, e := v.Each(p); all != nil || e != api.ErrWhole {
				t.Errorf("P2107: %s: Each(%q): %v, %v", b, p, all != nil, e)
			}
		}
		for _, p := range []string{"a", "b", "c", "d", "e", "f", "c[0]", "c[9]", `d["k"].a`, "g.a", "g.c", "g.d", `g.d["k"].e`, "g.g.c[4]"} {
			if x, ok, e := v.Bytes(p); len(x) > 0 || ok || e != api.ErrNoMessage {
				t.Errorf("P2105: %s: Bytes(%q) = %s, %v, %v", b, p, some(x), ok, e)
			}
			if in, ok, e := v.At(p); in != nil || ok || e != api.ErrNoMessage {
				t.Errorf("P2106: %s: At(%q): %v, %v, %v", b, p, in != nil, ok, e)
			}
		}
	}
	// By every type and card.
	info, _ := wideSchema().Message("w.W")
	v := open(t, wideSchema(), "w.W", nil)
	for _, f := range info.Fields {
		many, inner := f.Card == api.CRepeated || f.Card == api.CMap, f.Type == api.TMessage
		size, content := any(noMany), any(noMessage)
		if many {
			size = 0
		}
		if inner && !many {
			content = nil
		}
		v.asked(t, f.Name, false, nil, size, content)
		if !many {
			continue
		}
		if content = nil; !inner {
			content = noMessage
		}
		inside := "[0]"
		if f.Card == api.CMap {
			inside = map[int]string{api.TBool: "[true]", api.TString: `["k"]`}[f.Key]
		}
		if inside == "" {
			inside = "[1]"
		}
		v.asked(t, f.Name+inside, false, nil, noMany, content)
	}
}

func TestNotThere(t *testing.T) { // whatever stands below something that is not there is not there: no fault elsewhere is met
	v := opens(t, "1a 02 02 04 22 05 12 01 00 0a 00 08 05 3a 00")
	for _, p := range []string{"b", "e", "f", "c[2]", "g.a", "g.b", "g.c[0]", `d["k"].a`, `d["k"].c[0]`, `d["k"].g.b`, "g.g.a", "g.g.g.g.f", `g.d["x"].d["y"].a`} {
		v.scalar(t, p, nil)
	}
	for _, p := range []string{`d["k"]`, `d["k"].g`, "g.g", "g.g.g", `g.d["k"]`} {
		v.message(t, p, nil, nil)
	}
	for _, p := range []string{"g.c", "g.d", `d["k"].c`, `d["k"].d`, "g.g.d", `g.g.d["k"].c`} {
		v.many(t, p, nil, 0)
	}
	v.message(t, `d[""]`, api.ErrNumber, "00")
	v.scalar(t, `d[""].a`, api.ErrNumber)
}

func TestJsonNames(t *testing.T) { // a word may be a field's JSON name, a key be written with escapes
	s := load(t, `syntax = "proto3"; message M { int32 a_b = 1; map<string, M> x_y = 2; repeated M l_m = 3; }`)
	v := open(t, s, "M", rows(row("08 05"), record(2, record(1, []byte("é")), record(2, row("08 07"))), record(3, row("08 09"))))
	v.scalar(t, "aB", num(5))
	v.scalar(t, "a_b", num(5))
	v.scalar(t, `xY["\303\251"].aB`, num(7))
	v.scalar(t, `x_y["é"].a_b`, num(7))
	v.scalar(t, "lM[0].aB", num(9))
	v.many(t, "lM", list(one(1, num(9))), 1)
	v.message(t, "lM[0]", one(1, num(9)), "08 09")
}
