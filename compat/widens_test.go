package compat_test

import (
	"math"
	"testing"

	"sigil/api"
	"sigil/compat"
)

// What may become what, beside staying, as the chapter lists it: from, then what it may become.
var (
	listedCards = map[int][]int{api.CSingle: {api.COptional, api.CRepeated}, api.COptional: {api.CSingle, api.CRepeated}}
	listedKeys  = map[int][]int{api.TInt32: {api.TInt64}, api.TUint32: {api.TUint64}, api.TSint32: {api.TSint64}, api.TBool: {api.TInt32, api.TInt64, api.TUint32, api.TUint64}}
	listedTypes = map[int][]int{api.TInt32: {api.TInt64, api.TEnum}, api.TUint32: {api.TUint64}, api.TSint32: {api.TSint64}, api.TBool: {api.TInt32, api.TInt64, api.TUint32, api.TUint64}, api.TEnum: {api.TInt32, api.TInt64}, api.TString: {api.TBytes}}
)

// listed says whether something may become another thing.
func listed(l map[int][]int, from, to int) bool {
	may := from == to
	for _, x := range l[from] {
		may = may || x == to
	}
	return may
}

// secondWidens is a second reading of P1402.
func secondWidens(old, now api.Field) int {
	switch {
	case !listed(listedCards, old.Card, now.Card):
		return api.BCard
	case old.Card == api.CMap && !listed(listedKeys, old.Key, now.Key):
		return api.BKey
	case old.Type == api.TMessage && now.Type != api.TMessage, old.Type != api.TMessage && now.Type == api.TMessage:
		return api.BMessage
	case !listed(listedTypes, old.Type, now.Type):
		return api.BType
	}
	return 0
}

func f(card, typ int) api.Field          { return api.Field{Card: card, Type: typ} }
func kf(key, typ int) api.Field          { return api.Field{Card: api.CMap, Key: key, Type: typ} }
func field(card, key, typ int) api.Field { return api.Field{Card: card, Key: key, Type: typ} }

// widens looks at the rule that a change breaks.
func widens(t *testing.T, old, now api.Field, want int) {
	t.Helper()
	if got := compat.Widens(old, now); got != want {
		t.Fatalf("P1402: Widens(%+v, %+v) = %d, want %d", old, now, got, want)
	}
}

func TestCards(t *testing.T) { // P1402: every card against every card
	for from, row := range map[int][]int{
		api.CSingle:   {0, 0, 0, api.BCard},
		api.COptional: {0, 0, 0, api.BCard},
		api.CRepeated: {api.BCard, api.BCard, 0, api.BCard},
		api.CMap:      {api.BCard, api.BCard, api.BCard, 0},
	} {
		for i, want := range row {
			for typ := api.TDouble; typ <= api.TMessage; typ++ {
				widens(t, field(from, api.TInt32, typ), field(i+1, api.TInt32, typ), want)
			}
		}
	}
}

func TestTypes(t *testing.T) { // P1402: every type against every type, with every card
	const (
		o = 0
		x = api.BType
		m = api.BMessage
	)
	matrix := [][]int{ // a row for each old type, from double on
		{o, x, x, x, x, x, x, x, x, x, x, x, x, x, x, x, m}, // double
		{x, o, x, x, x, x, x, x, x, x, x, x, x, x, x, x, m}, // float
		{x, x, o, o, x, x, x, x, x, x, x, x, x, x, x, o, m}, // int32
		{x, x, x, o, x, x, x, x, x, x, x, x, x, x, x, x, m}, // int64
		{x, x, x, x, o, o, x, x, x, x, x, x, x, x, x, x, m}, // uint32
		{x, x, x, x, x, o, x, x, x, x, x, x, x, x, x, x, m}, // uint64
		{x, x, x, x, x, x, o, o, x, x, x, x, x, x, x, x, m}, // sint32
		{x, x, x, x, x, x, x, o, x, x, x, x, x, x, x, x, m}, // sint64
		{x, x, x, x, x, x, x, x, o, x, x, x, x, x, x, x, m}, // fixed32
		{x, x, x, x, x, x, x, x, x, o, x, x, x, x, x, x, m}, // fixed64
		{x, x, x, x, x, x, x, x, x, x, o, x, x, x, x, x, m}, // sfixed32
		{x, x, x, x, x, x, x, x, x, x, x, o, x, x, x, x, m}, // sfixed64
		{x, x, o, o, o, o, x, x, x, x, x, x, o, x, x, x, m}, // bool
		{x, x, x, x, x, x, x, x, x, x, x, x, x, o, o, x, m}, // string
		{x, x, x, x, x, x, x, x, x, x, x, x, x, x, o, x, m}, // bytes
		{x, x, o, o, x, x, x, x, x, x, x, x, x, x, x, o, m}, // enum
		{m, m, m, m, m, m, m, m, m, m, m, m, m, m, m, m, o}, // message
	}
	for i, row := range matrix {
		for k, want := range row {
			for card := api.CSingle; card <= api.CMap; card++ {
				widens(t, field(card, api.TBool, i+1), field(card, api.TBool, k+1), want)
			}
			widens(t, f(api.CSingle, i+1), f(api.CRepeated, k+1), want)
			widens(t, f(api.COptional, i+1), f(api.CRepeated, k+1), want)
			widens(t, kf(api.TBool, i+1), kf(api.TUint64, k+1), want)
		}
	}
}

func TestKeys(t *testing.T) { // P1402: every type against every type as keys
	const (
		o = 0
		x = api.BKey
	)
	matrix := [][]int{ // by keyTypes
		{o, o, x, x, x, x, x, x, x, x, x, x}, // int32
		{x, o, x, x, x, x, x, x, x, x, x, x}, // int64
		{x, x, o, o, x, x, x, x, x, x, x, x}, // uint32
		{x, x, x, o, x, x, x, x, x, x, x, x}, // uint64
		{x, x, x, x, o, o, x, x, x, x, x, x}, // sint32
		{x, x, x, x, x, o, x, x, x, x, x, x}, // sint64
		{x, x, x, x, x, x, o, x, x, x, x, x}, // fixed32
		{x, x, x, x, x, x, x, o, x, x, x, x}, // fixed64
		{x, x, x, x, x, x, x, x, o, x, x, x}, // sfixed32
		{x, x, x, x, x, x, x, x, x, o, x, x}, // sfixed64
		{o, o, o, o, x, x, x, x, x, x, o, x}, // bool
		{x, x, x, x, x, x, x, x, x, x, x, o}, // string
	}
	for i, row := range matrix {
		for k, want := range row {
			widens(t, kf(keyTypes[i], api.TString), kf(keyTypes[k], api.TString), want)
			widens(t, kf(keyTypes[i], api.TMessage), kf(keyTypes[k], api.TMessage), want)
			// Of what is no map the key is not looked at.
			for card := api.CSingle; card <= api.CRepeated; card++ {
				widens(t, field(card, keyTypes[i], api.TString), field(card, keyTypes[k], api.TString), 0)
			}
		}
	}
	// What the types of fields alone may become, keys may not.
	widens(t, kf(api.TInt32, api.TBool), kf(api.TEnum, api.TBool), api.BKey)
	widens(t, kf(api.TEnum, api.TBool), kf(api.TInt32, api.TBool), api.BKey)
	widens(t, kf(api.TEnum, api.TBool), kf(api.TInt64, api.TBool), api.BKey)
	widens(t, kf(api.TString, api.TBool), kf(api.TBytes, api.TBool), api.BKey)
	widens(t, kf(api.TMessage, api.TBool), kf(api.TBytes, api.TBool), api.BKey)
}

func TestTwoRules(t *testing.T) { // P1402: of two rules that are broken at a time the first in the order
	list, single := api.CRepeated, api.CSingle
	widens(t, f(list, api.TMessage), f(single, api.TInt32), api.BCard) // and BMessage
	widens(t, f(list, api.TSint32), f(single, api.TInt32), api.BCard)  // and BType
	widens(t, f(single, api.TInt32), kf(api.TInt32, api.TMessage), api.BCard)
	widens(t, field(list, api.TInt32, api.TBool), kf(api.TString, api.TBool), api.BCard) // keys, of which just one is a map's
	widens(t, field(api.CMap, api.TInt32, api.TBool), field(list, api.TString, api.TBool), api.BCard)
	widens(t, kf(api.TInt32, api.TMessage), kf(api.TSint32, api.TInt32), api.BKey) // and BMessage
	widens(t, kf(api.TInt32, api.TInt32), kf(api.TSint32, api.TMessage), api.BKey)
	widens(t, kf(api.TInt32, api.TSint32), kf(api.TSint32, api.TInt32), api.BKey) // and BType
	widens(t, kf(api.TInt32, api.TSint32), kf(api.TInt64, api.TInt32), api.BType)
	widens(t, kf(api.TInt32, api.TMessage), kf(api.TInt64, api.TInt32), api.BMessage)
	widens(t, f(single, api.TMessage), f(list, api.TBytes), api.BMessage)
}

func TestNothingElseOfFields(t *testing.T) { // P1402: of the two fields Card, Type, Key alone are looked at
	for old := range 18 {
		for now := range 18 {
			for _, cards := range [][2]int{{1, 1}, {1, 2}, {2, 3}, {3, 1}, {4, 4}, {4, 1}} {
				a, b := field(cards[0], api.TBool, old), field(cards[1], api.TInt32, now)
				want := compat.Widens(a, b)
				for _, x := range []api.Field{
					{Number: 7}, {Number: -1}, {Name: "x"}, {Json: "y"}, {Of: "p.M"}, {Oneof: 3}, {Oneof: -1},
					{Number: 9, Name: "a", Json: "b", Of: "c", Oneof: 1},
				} {
					x.Card, x.Type, x.Key = a.Card, a.Type, a.Key
					widens(t, x, b, want)
					y := x
					y.Card, y.Type, y.Key = b.Card, b.Type, b.Key
					widens(t, a, y, want)
					widens(t, x, y, want)
				}
			}
		}
	}
}

func TestAllFields(t *testing.T) { // P1402: cards, keys and types that there are, and some that there are not, each with each
	for oldCard := 0; oldCard <= 5; oldCard++ {
		for nowCard := 0; nowCard <= 5; nowCard++ {
			for types := range 19 * 19 {
				for keys := range 19 * 19 {
					old, now := field(oldCard, keys/19, types/19), field(nowCard, keys%19, types%19)
					if compat.Widens(old, now) != secondWidens(old, now) {
						widens(t, old, now, secondWidens(old, now))
					}
				}
			}
		}
	}
}

func TestAnyNumbers(t *testing.T) { // P1, P1402: no number panics; what is no card, key or type may stay, and nothing else
	odd := []int{math.MinInt, math.MinInt32, -17, -1, 0, 1, 3, 4, 5, 13, 16, 17, 18, 19, 255, 256 + 3, 1<<32 + 3, math.MaxInt32, math.MaxInt}
	for _, a := range odd {
		for _, b := range odd {
			for _, c := range odd {
				for _, d := range odd {
					widens(t, field(1, c, a), field(1, d, b), secondWidens(field(1, c, a), field(1, d, b)))
					widens(t, field(4, c, a), field(4, d, b), secondWidens(field(4, c, a), field(4, d, b)))
					widens(t, field(c, 3, a), field(d, 4, b), secondWidens(field(c, 3, a), field(d, 4, b)))
				}
			}
		}
	}
	widens(t, field(99, 7, -3), field(99, 8, -3), 0)
	widens(t, field(99, 7, 0), field(98, 7, 0), api.BCard)
	widens(t, field(1, 0, 0), field(1, 0, 18), api.BType)
	widens(t, kf(99, 3), kf(99, 3), 0)
	widens(t, kf(99, 3), kf(98, 3), api.BKey)
}

// forms are fields of all cards, types and keys that a schema has.
func forms() []api.Field {
	var l []api.Field
	for typ := api.TDouble; typ <= api.TMessage; typ++ {
		for card := api.CSingle; card <= api.CRepeated; card++ {
			l = append(l, f(card, typ))
		}
		for _, key := range keyTypes {
			l = append(l, kf(key, typ))
		}
	}
	return l
}

func TestThreeFields(t *testing.T) { // P1409: a field to itself; from a first by a second to a third
	l := forms()
	says := make([][]int, len(l))
	for i, a := range l {
		for _, b := range l {
			says[i] = append(says[i], compat.Widens(a, b))
		}
		if says[i][i] != 0 {
			t.Fatalf("P1409: Widens(%+v, itself) = %d", a, says[i][i])
		}
	}
	but := 0
	for i, a := range l {
		for k, b := range l {
			if says[i][k] != 0 {
				continue
			}
			for n, c := range l {
				want := 0
				if a.Type == api.TBool && b.Type == api.TInt32 && c.Type == api.TEnum {
					want = api.BType
				}
				if says[k][n] != 0 {
					continue
				}
				if want != 0 {
					but++
				}
				if says[i][n] != want {
					t.Fatalf("P1409: Widens from %+v by %+v to %+v: %d, want %d", a, b, c, says[i][n], want)
				}
			}
		}
	}
	if but == 0 {
		t.Errorf("P1409: no bool becomes an int32 that becomes an enum")
	}
}
