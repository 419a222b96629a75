package registry_test

import (
	"bytes"
	"fmt"
	"slices"
	"testing"

	"sigil/api"
	"sigil/sign"
)

func TestGetErrors(t *testing.T) { // P1804: each error of Get, and of two the first
	x := fresh(t)
	get := func(subject string, version int, want api.Errno) {
		t.Helper()
		if v, e := x.r.Get(subject, version); e != want || !sameVersion(v, api.Version{}) {
			t.Errorf("P1804: Get(%.20q, %d) = %+v, %v, want %v", subject, version, v, e, want)
		}
	}
	numbers := []int{-1 << 63, -1, 0, 3, 257, 258, 65537, 1<<32 + 1, 1<<63 - 1}
	for _, n := range append(numbers, 1) {
		get("s", n, api.ErrSubject)
		get("", n, api.ErrSubject)
		get(long(256), n, api.ErrLong)
	}
	x.registers("s", fileA, "M", 1, api.OK)
	x.registers("s", fileB, "M", 2, api.OK)
	for _, n := range numbers {
		get("s", n, api.ErrVersion)
		get("t", n, api.ErrSubject)
		get(long(255), n, api.ErrSubject)
		get(long(256), n, api.ErrLong)
	}
}

func TestGet(t *testing.T) { // P1804: what was registered, also when it was dropped
	x := fresh(t)
	for i, files := range written {
		name := fmt.Sprint("s", i)
		x.registers(name, files, "p.M", 1, api.OK)
		x.rules(name, api.RNone, api.OK)
		x.registers(name, files, "q.N", 2, api.OK)
		x.registers(name, fileC, "M", 3, api.OK)
		s := load(t, files)
		for _, gone := range []bool{false, true} {
			for k, typ := range []string{"p.M", "q.N"} {
				v, e := x.r.Get(name, k+1)
				if e != api.OK || !sameVersion(v, api.Version{Number: k + 1, Files: s.Texts(), Type: typ, Print: sign.Schema(s), Gone: gone && k == 1}) {
					t.Errorf("P1804: Get(%q, %d) = %+v, %v", name, k+1, v, e)
				}
			}
			if !gone {
				x.drops(name, 2, api.OK)
			}
		}
	}
	x.alike()
	x.again()
}

func TestFind(t *testing.T) { // P1804: the places of a print that several subjects and versions have
	x := fresh(t)
	both := src("message M { int32 a = 1; } message N { int32 a = 1; } message O { int32 a = 1; }")
	print := sign.Schema(load(t, both))
	find := func(want ...api.Place) {
		t.Helper()
		if l, e := x.r.Find(print); e != api.OK || !slices.Equal(l, want) {
			t.Errorf("P1804: Find = %v, %v, want %v", l, e, want)
		}
	}
	find()
	for _, name := range []string{"b", "\xff", "a", "aa", "B"} {
		x.registers(name, fileA, "M", 1, api.OK)
		find()
	}
	x.registers("b", both, "N", 2, api.OK)
	find(api.Place{Subject: "b", Version: 2})
	x.registers("\xff", both, "M", 2, api.OK)
	x.registers("aa", both, "O", 2, api.OK)
	x.registers("b", fileB, "M", 3, api.OK)
	x.rules("b", api.RNone, api.OK)
	x.registers("b", both, "M", 4, api.OK)
	x.registers("B", both, "M", 2, api.OK)
	x.registers("b", both, "O", 5, api.OK)
	find(api.Place{Subject: "B", Version: 2}, api.Place{Subject: "aa", Version: 2}, api.Place{Subject: "b", Version: 2}, api.Place{Subject: "b", Version: 4}, api.Place{Subject: "b", Version: 5}, api.Place{Subject: "\xff", Version: 2})
	x.drops("b", 4, api.OK)
	x.drops("aa", 2, api.OK)
	find(api.Place{Subject: "B", Version: 2}, api.Place{Subject: "b", Version: 2}, api.Place{Subject: "b", Version: 5}, api.Place{Subject: "\xff", Version: 2})
	x.registers("b", both, "M", 6, api.OK)
	find(api.Place{Subject: "B", Version: 2}, api.Place{Subject: "b", Version: 2}, api.Place{Subject: "b", Version: 5}, api.Place{Subject: "b", Version: 6}, api.Place{Subject: "\xff", Version: 2})
	x.alike()
	x.again()
	for n := range 70 {
		l, e := x.r.Find(bytes.Repeat(print, 3)[:n])
		if n == 32 {
			continue
		}
		if e != api.ErrArg || len(l) > 0 {
			t.Errorf("P1804: Find of %d bytes = %v, %v", n, l, e)
		}
	}
	for i := range 32 * 8 { // all 32 bytes count
		other := bytes.Clone(print)
		other[i/8] ^= 1 << (i % 8)
		if l, e := x.r.Find(other); e != api.OK || len(l) > 0 {
			t.Errorf("P1804: Find of another print = %v, %v", l, e)
		}
	}
}

func TestFindNothing(t *testing.T) { // P1804: a registry without subjects
	x := fresh(t)
	for _, n := range []int{0, 1, 31, 33} {
		if l, e := x.r.Find(make([]byte, n)); e != api.ErrArg || len(l) > 0 {
			t.Errorf("P1804: Find of %d bytes = %v, %v", n, l, e)
		}
	}
	if l, e := x.r.Find(make([]byte, 32)); e != api.OK || len(l) > 0 {
		t.Errorf("P1804: Find = %v, %v", l, e)
	}
	if l := x.r.List(); len(l) > 0 {
		t.Errorf("P1804: List = %v", l)
	}
}

func TestList(t *testing.T) { // P1804: subjects rising bytewise, with the numbers of their living versions
	x := fresh(t)
	for _, name := range []string{"b", "\xff", "a", "aa", "B", "\x00", "é", "b\x00"} {
		for i := range 12 {
			x.registers(name, src(fmt.Sprintf("message M { int32 a%d = 1; }", i)), "M", i+1, api.OK)
		}
	}
	x.drops("b", 12, api.OK)
	x.drops("b", 3, api.OK)
	x.drops("b", 1, api.OK)
	for i := range 12 {
		x.drops("aa", 12-i, api.OK)
	}
	x.rules("B", api.RForwardAll, api.OK)
	all := []int{1, 2, 3, 4, 5, 6, 7, 8, 9, 10, 11, 12}
	want := []api.Subject{
		{Name: "\x00", Rule: 1, Versions: all}, {Name: "B", Rule: 5, Versions: all}, {Name: "a", Rule: 1, Versions: all}, {Name: "aa", Rule: 1},
		{Name: "b", Rule: 1, Versions: []int{2, 4, 5, 6, 7, 8, 9, 10, 11}}, {Name: "b\x00", Rule: 1, Versions: all}, {Name: "é", Rule: 1, Versions: all}, {Name: "\xff", Rule: 1, Versions: all},
	}
	if l := x.r.List(); !sameList(l, want) {
		t.Errorf("P1804: List = %v, want %v", l, want)
	}
	x.again()
}
