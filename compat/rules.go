package compat

import "sigil/api"

// cardChanges are the changes that a field's card may take, from and to.
var cardChanges = [...][2]int{
	{api.CSingle, api.COptional},
	{api.COptional, api.CSingle},
	{api.CSingle, api.CRepeated},
	{api.COptional, api.CRepeated},
}

// keyChanges are the changes that the type of a map's keys may take. That of a field may take them too.
var keyChanges = [...][2]int{
	{api.TInt32, api.TInt64},
	{api.TUint32, api.TUint64},
	{api.TSint32, api.TSint64},
	{api.TBool, api.TInt32},
	{api.TBool, api.TInt64},
	{api.TBool, api.TUint32},
	{api.TBool, api.TUint64},
}

// typeChanges are the changes that the type of a field alone may take.
var typeChanges = [...][2]int{
	{api.TEnum, api.TInt32},
	{api.TEnum, api.TInt64},
	{api.TInt32, api.TEnum},
	{api.TString, api.TBytes},
}

// rule is a rule on a field: its number, and whether a change of the field breaks it.
type rule struct {
	number int
	broken func(old, now api.Field) bool
}

// rules makes the rules on a field, in their order.
func rules() []rule {
	return []rule{
		{api.BCard, func(old, now api.Field) bool { return !cardMay(old.Card, now.Card) }},
		{api.BKey, func(old, now api.Field) bool { return isMap(old) && isMap(now) && !keyMay(old.Key, now.Key) }},
		{api.BMessage, func(old, now api.Field) bool { return isMessage(old) != isMessage(now) }},
		{api.BType, func(old, now api.Field) bool { return !typeMay(old.Type, now.Type) }},
	}
}

// broken tells the first of the rules that a field's change breaks, or 0.
func broken(l []rule, old, now api.Field) int {
	for _, r := range l {
		if r.broken(old, now) {
			return r.number
		}
	}
	return 0
}

func isMap(f api.Field) bool { return f.Card == api.CMap }

func isMessage(f api.Field) bool { return f.Type == api.TMessage }

// cardMay says whether a card may become another one, or stays.
func cardMay(from, to int) bool {
	for _, c := range cardChanges {
		if c[0] == from && c[1] == to {
			return true
		}
	}
	return from == to
}

// keyMay says whether a key's type may become another one, or stays.
func keyMay(from, to int) bool {
	for _, c := range keyChanges {
		if c[0] == from && c[1] == to {
			return true
		}
	}
	return from == to
}

// typeMay says whether a field's type may become another one, or stays.
func typeMay(from, to int) bool {
	for _, c := range typeChanges {
		if c[0] == from && c[1] == to {
			return true
		}
	}
	return keyMay(from, to)
}
