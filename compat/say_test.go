package compat_test

import (
	"fmt"
	"math"
	"strconv"
	"strings"
	"testing"

	"sigil/api"
	"sigil/compat"
)

// says looks at the words of a break.
func says(t *testing.T, b api.Break, want string) {
	t.Helper()
	if got := compat.Say(b); got != want {
		t.Errorf("P1410: Say(%+v) = %q, want %q", b, some(got), some(want))
	}
}

func TestSay(t *testing.T) { // P1410: rule 0, the rules 1 to 6, others
	why := []string{"", "a number that is not reserved", "another type", "another card", "another key", "fields into one oneof", "a message against none"}
	for rule := 1; rule <= 6; rule++ {
		says(t, api.Break{Rule: rule, Old: "p.M", New: "q.N", Path: []int{1, 7, 536870911}}, "p.M -> q.N at 1.7.536870911: "+why[rule])
		says(t, api.Break{Rule: rule, Old: "M", New: "M", Path: []int{10}}, "M -> M at 10: "+why[rule])
		says(t, api.Break{Rule: rule, Old: "M", New: "N"}, "M -> N at top: "+why[rule])
		says(t, api.Break{Rule: rule, Old: "M", New: "N", Path: []int{}}, "M -> N at top: "+why[rule])
		says(t, api.Break{Rule: rule}, " ->  at top: "+why[rule])
	}
	for _, rule := range []int{-1, 7, 8, -6, 100, 256, 257, 1 << 32, 1<<32 + 1, math.MinInt, math.MaxInt, math.MinInt32} {
		says(t, api.Break{Rule: rule}, "no rule")
		says(t, api.Break{Rule: rule, Old: "M", New: "N", Path: []int{1}}, "no rule")
	}
	says(t, api.Break{}, "fine")
	says(t, api.Break{Old: "M", New: "N", Path: []int{1, 2}}, "fine")
}

func TestSayAnything(t *testing.T) { // P1, P1410: any numbers and names as they are
	says(t, api.Break{Rule: api.BType, Old: "\xff\x00", New: "a -> b at top: ", Path: []int{0, -1, math.MinInt, math.MaxInt}}, "\xff\x00 -> a -> b at top:  at 0.-1.-9223372036854775808.9223372036854775807: another type")
	long := strings.Repeat("x", 100000)
	says(t, api.Break{Rule: api.BKey, Old: long, New: long}, long+" -> "+long+" at top: another key")
	var path []int
	var l []string
	for i := range 100000 {
		path = append(path, i)
		l = append(l, strconv.Itoa(i))
	}
	says(t, api.Break{Rule: api.BGone, Path: path}, " ->  at "+strings.Join(l, ".")+": a number that is not reserved")
}

func TestSayOfAll(t *testing.T) { // P1410: what All tells, in words
	l, e := of(t, "message M { int32 a = 1; N n = 2; int32 c = 3; int32 d = 4; } message N { repeated int32 a = 1; map<bool, bool> b = 2; bytes c = 30; }",
		"message M { N n = 2; oneof o { int32 c = 3; int32 d = 4; } } message N { int32 a = 1; map<string, bool> b = 2; N c = 30; }").all()
	var got []string
	for _, b := range l {
		got = append(got, compat.Say(b))
	}
	want := []string{"M -> M at 1: a number that is not reserved", "M -> M at 3: fields into one oneof", "N -> N at 2.1: another card", "N -> N at 2.2: another key", "N -> N at 2.30: a message against none"}
	if e != api.OK || fmt.Sprint(got) != fmt.Sprint(want) {
		t.Errorf("P1410: %q, %v, want %q", got, e, want)
	}
}
