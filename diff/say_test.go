package diff_test

import (
	"math"
	"testing"

	"sigil/api"
	"sigil/diff"
)

func says(t *testing.T, c api.Change, want string) {
	t.Helper()
	if got := diff.Say(c); got != want {
		t.Errorf("P1910: Say(%+v) = %q, want %q", c, got, want)
	}
}

func TestSay(t *testing.T) { // P1910: every kind, with what it does not name too, and none
	for kind, want := range map[int]string{
		api.CAdded:    "p.M 7: added new",
		api.CGone:     "p.M 7: gone old",
		api.CType:     "p.M 7: type old to new",
		api.CCard:     "p.M 7: card old to new",
		api.CName:     "p.M 7: name old to new",
		api.COneof:    "p.M 7: oneof old to new",
		api.CReserved: "p.M: reserved old to new",
	} {
		says(t, api.Change{Kind: kind, Type: "p.M", Number: 7, Old: "old", New: "new"}, want)
	}
	for _, kind := range []int{math.MinInt, -1, 0, 8, 9, 255, math.MaxInt} {
		says(t, api.Change{Kind: kind}, "no change")
		says(t, api.Change{Kind: kind, Type: "M", Number: 1, Old: "a", New: "b"}, "no change")
	}
}

func TestSayAnything(t *testing.T) { // P1910: whatever stands in a change is told as it is
	for kind, want := range map[int]string{
		api.CAdded:    " 0: added ",
		api.CGone:     " 0: gone ",
		api.CType:     " 0: type  to ",
		api.CCard:     " 0: card  to ",
		api.CName:     " 0: name  to ",
		api.COneof:    " 0: oneof  to ",
		api.CReserved: ": reserved  to ",
	} {
		says(t, api.Change{Kind: kind}, want)
	}
	says(t, api.Change{Kind: api.CAdded, Type: "E", Number: -1, New: "A"}, "E -1: added A")
	says(t, api.Change{Kind: api.CGone, Type: "E", Number: math.MinInt, Old: "message"}, "E -9223372036854775808: gone message")
	says(t, api.Change{Kind: api.CType, Type: "\xff\x00", Number: math.MaxInt, Old: "%s", New: "\n"}, "\xff\x00 9223372036854775807: type %s to \n")
	says(t, api.Change{Kind: api.COneof, Type: "M", Number: 2, New: "o"}, "M 2: oneof  to o")
	says(t, api.Change{Kind: api.CReserved, Type: "M", Old: `4, 9 to max, "x"`}, `M: reserved 4, 9 to max, "x" to `)
}
