package path

import (
	"math"
	"strconv"
	"strings"
	"unicode/utf8"

	"sigil/api"
	"sigil/scan"
)

// isPure says whether a value is of a kind, and holds nothing that the kind does not name. Of kind 0 is the Value with nothing in it.
func isPure(v *api.Value, kind int) bool {
	listed := kind == api.VList || kind == api.VMap || kind == api.VPair
	return v.Kind == kind &&
		(v.Num == 0 || kind == api.VNum) &&
		(v.Text == "" || kind == api.VText) &&
		(len(v.List) == 0 || listed) &&
		(len(v.Fields) == 0 || kind == api.VMessage)
}

// isOf says whether a value is one of a type, which is no message.
func isOf(typ int, v *api.Value) bool {
	switch typ {
	case api.TString:
		return isPure(v, api.VText) && utf8.ValidString(v.Text)
	case api.TBytes:
		return isPure(v, api.VText)
	}
	least, most := bounds(typ)
	return isPure(v, api.VNum) && least <= v.Num && v.Num <= most
}

// bounds tells the least and the greatest number of a numeric type.
func bounds(typ int) (int, int) {
	switch typ {
	case api.TInt32, api.TSint32, api.TSfixed32, api.TEnum:
		return math.MinInt32, math.MaxInt32
	case api.TUint32, api.TFixed32, api.TFloat:
		return 0, math.MaxUint32
	case api.TBool:
		return 0, 1
	}
	return math.MinInt, math.MaxInt
}

// signless says whether a type's numbers are told as those of their 64 bits without a sign.
func signless(typ int) bool { return typ == api.TUint64 || typ == api.TFixed64 }

// keyOf tells the key of a type that an inside writes, and whether it writes one.
func keyOf(typ int, inside string) (api.Value, bool) {
	key, ok := api.Value{Kind: api.VNum}, false
	switch {
	case typ == api.TString:
		text, e := scan.Unquote(inside)
		key, ok = api.Value{Kind: api.VText, Text: text}, e == api.OK
	case inside == "true" || inside == "false":
		ok = typ == api.TBool
		if inside == "true" {
			key.Num = 1
		}
	case signless(typ):
		n, err := strconv.ParseUint(inside, 10, 64)
		key.Num, ok = int(n), err == nil
	case typ != api.TBool:
		n, err := strconv.Atoi(inside)
		key.Num, ok = n, err == nil
	}
	return key, ok && isOf(typ, &key)
}

// keyText writes a key of a type.
func keyText(typ int, key *api.Value) string {
	switch {
	case typ == api.TString:
		// Of a text that is longer than any path a part is enough: it is too long, too.
		return scan.Quote(key.Text[:min(len(key.Text), api.MaxPath+1)])
	case typ == api.TBool:
		return strconv.FormatBool(key.Num == 1)
	case signless(typ):
		return strconv.FormatUint(uint64(key.Num), 10)
	}
	return strconv.Itoa(key.Num)
}

// owned tells a tree that has nothing of what was handed in, its texts neither.
func owned(v *api.Value) api.Value {
	out := api.Value{Kind: v.Kind, Num: v.Num, Text: strings.Clone(v.Text)}
	if len(v.List) > 0 {
		out.List = make([]api.Value, len(v.List))
	}
	for i := range v.List {
		out.List[i] = owned(&v.List[i])
	}
	if len(v.Fields) > 0 {
		out.Fields = make([]api.Entry, len(v.Fields))
	}
	for i := range v.Fields {
		out.Fields[i] = api.Entry{Number: v.Fields[i].Number, Value: owned(&v.Fields[i].Value)}
	}
	return out
}
