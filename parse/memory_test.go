package parse_test

import (
	"reflect"
	"slices"
	"strings"
	"testing"
	"unsafe"

	"sigil/api"
	"sigil/parse"
)

// everything is a text that declares something of each kind, some of it twice.
const everything = begin + "package a.b; import 'x'; import 'y'; message M { int32 a = 1; optional .b.c d = 2; map<string, e> f = 3; oneof o { g h = 4; i j = 5; } oneof p { k l = 6; } reserved 1, 3 to 4; reserved 'q', 'r', 's'; message N { int32 a = 1; oneof o { b c = 2; } reserved 9; reserved 't'; } enum E { A = 0; B = -1; reserved 5; reserved 'u'; } message O { } enum F { C = 0; } } enum G { D = 0; reserved 6 to max, -1; reserved 'v', 'w'; } message P { m n = 7; reserved 8; reserved 'z'; }"

// held is a text over bytes that can be changed behind the program's back, and these bytes.
func held(s string) (string, []byte) {
	b := []byte(s + "!")
	return unsafe.String(&b[0], len(s)), b
}

// wreck changes all bytes.
func wreck(b []byte) {
	for i := range b {
		b[i] ^= 0x55
	}
}

func TestNotKept(t *testing.T) { // P2: what is handed in is not kept
	for _, text := range append(rightTexts(), everything) {
		want, _ := parse.Parse(strings.Clone(text))
		in, b := held(text)
		f, bad := parse.Parse(in)
		if in != text {
			t.Errorf("P2: Parse changes %q to %q", text, in)
		}
		wreck(b)
		if bad != (api.Fault{}) || !same(f, want) {
			t.Errorf("P2: Parse(%q) keeps what was handed in: %+v", text, f)
		}
		var all [][]byte
		l := tokens(text)
		for i := range l {
			var b []byte
			l[i].Text, b = held(l[i].Text)
			all = append(all, b)
		}
		f, bad = parse.Tokens(l)
		for i, b := range all {
			wreck(b)
			l[i] = api.Token{}
		}
		if bad != (api.Fault{}) || !same(f, want) {
			t.Errorf("P2: Tokens of %q keeps what was handed in: %+v", text, f)
		}
	}
}

func TestNotChanged(t *testing.T) { // P2: nor changed, its spare room neither
	for _, text := range append(append(rightTexts(), faultTexts()...), everything) {
		l := tokens(text)
		for _, spare := range []int{0, 1, 7} {
			room := append([]api.Token(nil), l...)
			for range spare {
				room = append(room, api.Token{Kind: 1, At: 9, Text: "spare"})
			}
			before := append([]api.Token(nil), room...)
			f, bad := parse.Tokens(room[:len(l)])
			if !slices.Equal(room, before) {
				t.Errorf("P2: Tokens of %q changes them", text)
			}
			g, again := parse.Tokens(slices.Clip(append([]api.Token(nil), l...)))
			if bad != again || !same(f, g) {
				t.Errorf("P3: Tokens of %q hangs on the spare room", text)
			}
		}
	}
}

// lists goes through all lists of an answer, at each to its whole room.
func lists(v reflect.Value, f func(reflect.Value)) {
	switch v.Kind() {
	case reflect.Struct:
		for i := range v.NumField() {
			lists(v.Field(i), f)
		}
	case reflect.Slice:
		for i := range v.Len() {
			lists(v.Index(i), f)
		}
		f(v.Slice(0, v.Cap()))
	}
}

// spoil fills a value with something else.
func spoil(v reflect.Value) {
	switch v.Kind() {
	case reflect.Int:
		v.SetInt(-77)
	case reflect.String:
		v.SetString("spoilt")
	case reflect.Struct:
		for i := range v.NumField() {
			spoil(v.Field(i))
		}
	case reflect.Slice:
		v.Set(reflect.MakeSlice(v.Type(), 3, 3))
	}
}

func TestNotShared(t *testing.T) { // P2: no two lists of an answer share memory, nor do two answers
	l := tokens(everything)
	want, bad := parse.Tokens(l)
	if bad != (api.Fault{}) {
		t.Fatalf("P502: %+v", bad)
	}
	f, _ := parse.Tokens(l)
	type stretch struct{ from, to uintptr }
	var all []stretch
	look := func(v reflect.Value) {
		if v.Len() > 0 {
			all = append(all, stretch{v.Pointer(), v.Pointer() + uintptr(v.Len())*v.Type().Elem().Size()})
		}
	}
	lists(reflect.ValueOf(&f).Elem(), look)
	lists(reflect.ValueOf(&want).Elem(), look)
	slices.SortFunc(all, func(a, b stretch) int { return int(a.from) - int(b.from) })
	for i := range all[1:] {
		if all[i].to > all[i+1].from {
			t.Errorf("P2: two lists share memory")
		}
	}
	if len(all) < 30 {
		t.Errorf("only %d lists", len(all))
	}
	lists(reflect.ValueOf(&f).Elem(), func(v reflect.Value) {
		for i := range v.Len() {
			spoil(v.Index(i))
		}
	})
	if g, bad := parse.Tokens(l); bad != (api.Fault{}) || !same(g, want) {
		t.Errorf("P2, P3: what is done with an answer is seen in the next one: %+v", g)
	}
}
