package view_test

import (
	"math"
	"slices"
	"testing"

	"sigil/api"
)

func TestPairs(t *testing.T) { // P2101: pairs with a key and without, with and without a value, with several records of both, with unknown ones between
	s := wideSchema()
	for _, c := range []struct {
		pair string
		k    string
		n    int // of m3
	}{
		{"", "", 0}, {"0a 00", "", 0}, {"10 05", "", 5}, {"0a 01 6b", "k", 0}, {"0a 01 6b 10 05", "k", 5}, {"10 05 0a 01 6b", "k", 5},
		{"0a 01 6b 0a 01 6c", "l", 0}, {"0a 01 6b 0a 00 10 05", "", 5}, {"10 05 10 06", "", 6}, {"10 05 10 00 0a 01 6b", "k", 0},
		{"18 07 0a 01 6b 1b 0a 01 6c 10 07 1c 10 05 f8 ff ff ff 0f 00", "k", 5},
		{"0a 01 6b 08 07 12 01 ff 10 05 15 00 00 00 00", "k", 5}, // of the wrong kinds
		{"0a 01 ff 0a 01 6b 10 05", "k", 5},                      // an earlier key that is not UTF-8
	} {
		v := open(t, s, "w.W", record(mapped+api.TInt32, row(c.pair)))
		got := any(dict(kv(c.k, num(c.n))))
		if c.pair == "0a 01 ff 0a 01 6b 10 05" {
			got = api.ErrUtf8 // read whole it is looked at
		}
		v.asked(t, "m3", true, got, 1, noMessage)
		for _, k := range []string{"", "k", "l"} {
			if k == c.k {
				v.scalar(t, `m3["`+k+`"]`, num(c.n))
			} else {
				v.scalar(t, `m3["`+k+`"]`, nil)
			}
		}
	}
}

func TestPairsOfMessages(t *testing.T) { // P2101: the value of a pair is the message whose pieces are the contents of all its records of 2, in the last pair of its key
	for _, c := range []struct {
		b          string
		k, content any // of d["k"]
		n          int
	}{
		{"22 00", nil, nil, 1},
		{"22 03 0a 01 6b", msg(), "", 1},
		{"22 05 0a 01 6b 12 00", msg(), "", 1},
		{"22 07 12 02 08 05 0a 01 6b", one(1, num(5)), "08 05", 1},
		{"22 0d 12 02 08 05 0a 01 6b 12 04 08 00 12 00", msg(), "08 05 08 00 12 00", 1},
		{"22 07 0a 01 6b 12 02 08 05 22 07 0a 01 6b 12 02 12 00", msg(), "12 00", 1}, // not merged with the earlier pair
		{"22 07 0a 01 6b 12 02 08 05 22 03 0a 01 6b", msg(), "", 1},
		{"22 07 0a 01 6b 12 02 08 05 22 03 0a 01 6c", one(1, num(5)), "08 05", 2},
		{"22 03 0a 01 6c 22 07 0a 01 6b 12 02 08 05 22 00", one(1, num(5)), "08 05", 3},
		{"22 08 0a 01 6b 12 01 08 12 00", api.ErrEnds, "08", 1},
		{"22 06 0a 01 6b 12 01 00 22 07 0a 01 6b 12 02 08 05", one(1, num(5)), "08 05", 1}, // what is replaced is not looked at
		{"22 06 0a 01 6b 12 01 0b 22 09 12 04 08 05 10 01 0a 01 6b", one(1, num(5)), "08 05 10 01", 1},
	} {
		v := opens(t, c.b)
		v.message(t, `d["k"]`, c.k, c.content)
		if n, e := v.Len("d"); n != c.n || e != api.OK {
			t.Errorf("P2104: %s: %d, %v, want %d", c.b, n, e, c.n)
		}
	}
	// In the message of a pair questions go on as in any other.
	v := opens(t, "22 0e 0a 01 6b 12 02 08 05 12 05 22 03 0a 01 6a")
	v.many(t, `d["k"].d`, dict(kv("j", msg())), 1)
	v.message(t, `d["k"].d["j"]`, msg(), "")
	v.scalar(t, `d["k"].d["j"].a`, nil)
	v.scalar(t, `d["k"].a`, num(5))
	v.scalar(t, `d["l"].a`, nil)
}

func TestWholePairs(t *testing.T) { // P2103: a map is read whole from all its records, from the left, those that are replaced too; its value at a key alone is not
	for _, c := range []struct {
		b    string
		want api.Errno
		k    any // Get of d["k"]
	}{
		{"22 06 0a 01 6b 12 01 08 22 03 0a 01 6b", api.ErrEnds, msg()},
		{"22 06 0a 01 6b 12 01 00 22 06 0a 01 6b 12 01 08", api.ErrNumber, api.ErrEnds},
		{"22 06 0a 01 6b 12 01 08 22 06 0a 01 6b 12 01 00", api.ErrEnds, api.ErrNumber},
		{"22 06 0a 01 6a 12 01 0c 22 06 0a 01 6b 12 01 08", api.ErrGroup, api.ErrEnds},
		{"22 08 12 01 0f 12 01 00 0a 00", api.ErrKind, nil},
		{"22 06 0a 01 ff 0a 01 6b", api.ErrUtf8, msg()},
		{"22 0b 12 03 12 01 ff 0a 01 ff 0a 01 6b", api.ErrUtf8, api.ErrUtf8},
		{"22 09 0a 01 ff 12 01 00 0a 01 6b", api.ErrUtf8, api.ErrNumber},
		{"22 09 12 01 00 0a 01 ff 0a 01 6b", api.ErrNumber, api.ErrNumber},
		{"22 0d 0a 01 6b 12 01 08 12 01 00 12 02 08 05", api.ErrEnds, api.ErrEnds},
	} {
		v := opens(t, c.b)
		if got, there, e := v.Get("d"); !answers(c.want, got, e, there) {
			t.Errorf("P2103: %s: Get(d) = %s, %v, want %v", c.b, short(got), e, c.want)
		}
		got, there, e := v.Get(`d["k"]`)
		if !answers(c.k, got, e, there) {
			t.Errorf("P2103: %s: Get(d[k]) = %s, %v, %v, want %v", c.b, short(got), there, e, c.k)
		}
	}
}

func TestKeysLookedAt(t *testing.T) { // P2101: as soon as a step goes into a map, or its pairs are counted, all pairs are looked into, the key of each ahead of the next pair; at its end Has looks at none
	for _, c := range []struct {
		b    string
		want api.Errno
		get  api.Errno
	}{
		{"22 03 0a 01 ff", api.ErrUtf8, api.ErrUtf8},
		{"22 03 0a 01 6b 22 03 0a 01 ff", api.ErrUtf8, api.ErrUtf8},
		{"22 03 0a 01 ff 22 00", api.ErrUtf8, api.ErrUtf8}, // of one pair the key, of the next one nothing
		{"22 01 08", api.ErrEnds, api.ErrEnds},
		{"22 03 0a 01 6b 22 02 0a 01", api.ErrEnds, api.ErrEnds},
		{"22 03 0a 01 ff 22 01 00", api.ErrUtf8, api.ErrUtf8}, // in the order of the pairs
		{"22 01 00 22 03 0a 01 ff", api.ErrNumber, api.ErrNumber},
		{"22 04 0a 01 ff 00", api.ErrNumber, api.ErrUtf8},              // the pair is looked into, then its key is read; read whole the left one is first
		{"22 06 0a 01 ff 0a 01 fe 22 01 00", api.ErrUtf8, api.ErrUtf8}, // the last key
		{"22 06 0a 01 ff 0a 01 6b 22 01 00", api.ErrNumber, api.ErrUtf8},
		{"22 02 0a 00 22 01 0c 22 01 00", api.ErrGroup, api.ErrGroup},
		{"22 01 0b 22 01 0c", api.ErrEnds, api.ErrEnds},
		{"22 05 12 03 12 01 ff 22 01 0f", api.ErrKind, api.ErrUtf8}, // the values are not looked at
	} {
		v := opens(t, c.b)
		v.asked(t, "d", true, c.get, c.want, noMessage)
		for _, p := range []string{`d[""].a`, `d["k"].b`, `d["none"].f`} {
			v.scalar(t, p, c.want)
		}
		v.message(t, `d[""]`, c.want, c.want)
		v.message(t, `d["k"].g`, c.want, c.want)
		v.many(t, `d["k"].c`, c.want, c.want)
		v.many(t, `d["none"].d`, c.want, c.want)
		v.scalar(t, "a", nil)
	}
}

func TestKeysOfEveryType(t *testing.T) { // P2101, P2107: unlike keys of every type, several times, told in their order
	s := wideSchema()
	for _, typ := range keyTypes {
		keys := []int{5, 0, math.MaxInt32, 3, 5, 1, 0}
		switch typ {
		case api.TInt32, api.TSint32, api.TSfixed32:
			keys = append(keys, -1, math.MinInt32, -5, -1)
		case api.TInt64, api.TSint64, api.TSfixed64, api.TUint64, api.TFixed64:
			keys = append(keys, -1, math.MinInt, math.MaxInt, -5, -1)
		case api.TUint32, api.TFixed32:
			keys = append(keys, math.MaxUint32, 1<<31, 7, 1<<31)
		case api.TBool:
			keys = []int{1, 0, 1, 1, 0}
		}
		values := map[int]int{}
		var b []byte
		for i, k := range keys {
			b = append(b, record(keyed+typ, keyBytes(typ, k), tag(2, 0), varint(i+1))...)
			values[k] = i + 1
		}
		var unlike []int
		for k := range values {
			unlike = append(unlike, k)
		}
		slices.SortFunc(unlike, func(a, b int) int {
			if typ == api.TUint64 || typ == api.TFixed64 {
				a, b = a^math.MinInt, b^math.MinInt
			}
			return map[bool]int{true: -1, false: 1}[a < b]
		})
		if typ == api.TString {
			unlike = sortedTexts(unlike)
		}
		v := open(t, s, "w.W", b)
		want := dict()
		for _, k := range unlike {
			want.List = append(want.List, pair(keyOf(typ, k), num(values[k])))
			steps := []api.Step{{Kind: api.SField, Number: keyed + typ}, {Kind: api.SKey, Key: keyOf(typ, k)}}
			v.scalar(t, pathOf(t, v, steps), num(values[k]))
		}
		v.many(t, named("k", typ, ""), want, len(unlike))
	}
}

func TestLastOfMany(t *testing.T) { // P2101: of many pairs with one key the last one, whatever keys stand between
	for _, keys := range []int{1, 2, 7, 100} {
		for _, n := range []int{13, 50, 1000} {
			var b []byte
			want, values := dict(), map[int]int{}
			for i := range n {
				k := i * i % keys
				values[k] = i + 1
				b = append(b, record(keyed+api.TUint32, tag(1, 0), varint(k), tag(2, 0), varint(i+1))...)
			}
			for k := range keys {
				if values[k] > 0 {
					want.List = append(want.List, pair(num(k), num(values[k])))
				}
			}
			v := open(t, wideSchema(), "w.W", b)
			v.many(t, "k5", want, len(values))
			for k := range keys {
				if values[k] > 0 {
					v.scalar(t, named("k5[", k, "]"), num(values[k]))
				}
			}
		}
	}
}

// keyOf is a key of a type; of TString a letter for the number.
func keyOf(typ, k int) api.Value {
	if typ == api.TString {
		return text(string(rune('a' + k%26)))
	}
	return num(k)
}

// sortedTexts puts numbers into the order of their letters.
func sortedTexts(l []int) []int {
	slices.SortFunc(l, func(a, b int) int { return a%26 - b%26 })
	return l
}

// keyBytes is the record of a pair's key.
func keyBytes(typ, k int) []byte {
	n := uint64(k)
	switch {
	case typ == api.TString:
		return record(1, []byte(keyOf(typ, k).Text))
	case kindOf(typ) == 5:
		return rows(tag(1, 5), []byte{byte(n), byte(n >> 8), byte(n >> 16), byte(n >> 24)})
	case kindOf(typ) == 1:
		return rows(tag(1, 1), []byte{byte(n), byte(n >> 8), byte(n >> 16), byte(n >> 24), byte(n >> 32), byte(n >> 40), byte(n >> 48), byte(n >> 56)})
	case typ == api.TSint32 || typ == api.TSint64:
		k = k<<1 ^ k>>63
	}
	return rows(tag(1, 0), varint(k))
}

func TestValuesOfEveryType(t *testing.T) { // P2101: the value of a pair by every type: its last record of 2, or the zero
	s := wideSchema()
	for typ := api.TDouble; typ <= api.TMessage; typ++ {
		content := map[int]string{0: "05", 1: "05 00 00 00 00 00 00 00", 2: "02 18 05", 5: "05 00 00 00"}[kindOf(typ)]
		some := num(numberOf(typ, 5))
		if kindOf(typ) == 2 {
			some = text("\x18\x05")
		}
		if typ == api.TMessage {
			some = one(3, num(5))
		}
		in := rows(tag(2, kindOf(typ)), row(content))
		zero := rows(tag(2, kindOf(typ)), map[int][]byte{0: row("00"), 1: make([]byte, 8), 2: row("00"), 5: make([]byte, 4)}[kindOf(typ)])
		for _, c := range []struct {
			b    []byte
			want api.Value
		}{
			{record(mapped + typ), zeroOf(typ)}, {record(mapped+typ, zero), zeroOf(typ)}, {record(mapped+typ, in), some},
			{rows(record(mapped+typ, in), record(mapped+typ)), zeroOf(typ)}, {rows(record(mapped+typ), record(mapped+typ, zero, in)), some},
		} {
			v := open(t, s, "w.W", c.b)
			v.many(t, named("m", typ, ""), dict(kv("", c.want)), 1)
			if got, ok, e := v.Get(named("m", typ, `[""]`)); !ok || e != api.OK || !same(got, c.want) {
				t.Errorf("P2103: %s: %s, %v, %v, want %s", short(c.b), short(got), ok, e, short(c.want))
			}
		}
		if typ != api.TMessage {
			v := open(t, s, "w.W", record(mapped+typ, in, zero))
			v.scalar(t, named("m", typ, `[""]`), zeroOf(typ))
		}
	}
}
