package strict_test

import (
	"fmt"
	"slices"
	"testing"

	"sigil/api"
)

// inPair looks whether a pair of a map of w.W is refused at a place of it, first in the map and behind another pair.
func inPair(t *testing.T, number int, first, b []byte, place int, want api.Errno) {
	t.Helper()
	all := record(number, b)
	within(t, all, len(all)-len(b)+place, want)
	if first != nil {
		all = rows(record(number, first), all)
		refuses(t, wideSchema(), "w.W", all, len(all)-len(b)+place, want)
		refuses(t, wideSchema(), "w.W", rows(all, record(number, first)), len(all)-len(b)+place, want)
	}
}

func TestPairs(t *testing.T) { // P1006: pairs without a key, without a value, with more behind it, with other tags, whose tags are none
	const strings, numbers = mapped + api.TString, mapped + api.TFixed32
	for _, c := range []struct {
		number int
		b      string
		at     int
		e      api.Errno
	}{
		{strings, "", 0, api.ErrPair},                                       // nothing
		{strings, "12 00", 0, api.ErrPair},                                  // no key
		{strings, "0a 01 6b", 3, api.ErrPair},                               // no value
		{strings, "12 00 0a 01 6b", 0, api.ErrPair},                         // the value first
		{strings, "0a 01 6b 0a 01 6c", 3, api.ErrPair},                      // two keys
		{strings, "0a 01 6b 0a 01 6c 12 00", 3, api.ErrPair},                // two keys
		{strings, "0a 01 6b 12 00 12 00", 5, api.ErrPair},                   // two values
		{strings, "0a 01 6b 12 00 00", 5, api.ErrPair},                      // a byte more
		{strings, "0a 01 6b 12 00 80", 5, api.ErrPair},                      // the begin of a varint more
		{strings, "0a 01 6b 12 00 1a 00", 5, api.ErrPair},                   // a third record
		{strings, "0a 01 6b 12 00 0a 01 6c 12 00", 5, api.ErrPair},          // two pairs
		{strings, "1a 00 0a 01 6b 12 00", 0, api.ErrPair},                   // a third record ahead
		{strings, "0a 01 6b 1a 00 12 00", 3, api.ErrPair},                   // a third record between
		{strings, "08 01 12 00", 0, api.ErrPair},                            // other wire kinds of the key
		{strings, "09 00 00 00 00 00 00 00 00 12 00", 0, api.ErrPair},       //
		{strings, "0b 0c 12 00", 0, api.ErrPair},                            //
		{strings, "0c 12 00", 0, api.ErrPair},                               //
		{strings, "0d 00 00 00 00 12 00", 0, api.ErrPair},                   //
		{strings, "0e 12 00", 0, api.ErrPair},                               // kinds that are none are at fault in the same way
		{strings, "0f 12 00", 0, api.ErrPair},                               //
		{strings, "02 12 00", 0, api.ErrPair},                               // and numbers of no field
		{strings, "00", 0, api.ErrPair},                                     //
		{strings, "8a 80 80 80 10 00", 0, api.ErrPair},                      // the number 2^29 + 1
		{strings, "8a 80 80 80 80 80 80 80 80 01 00", 0, api.ErrPair},       // the highest of 64 bits, too
		{strings, "ff ff ff ff ff ff ff ff ff 01", 0, api.ErrPair},          //
		{strings, "8a 00 01 6b", 0, api.ErrLonger},                          // tags that are no varints
		{strings, "8a 80 00 01 6b", 0, api.ErrLonger},                       //
		{strings, "8a", 0, api.ErrEnds},                                     //
		{strings, "8a 80 80 80 80 80 80 80 80 02", 0, api.ErrOver},          //
		{strings, "0a 01 6b 10 01", 3, api.ErrPair},                         // other wire kinds of the value
		{strings, "0a 01 6b 15 00 00 00 00", 3, api.ErrPair},                //
		{strings, "0a 01 6b 13 14", 3, api.ErrPair},                         //
		{strings, "0a 01 6b 16", 3, api.ErrPair},                            //
		{strings, "0a 01 6b 00", 3, api.ErrPair},                            //
		{strings, "0a 01 6b 92 80 80 80 10 00", 3, api.ErrPair},             //
		{strings, "0a 01 6b 92 00 00", 3, api.ErrLonger},                    // tags of values that are no varints
		{strings, "0a 01 6b 92", 3, api.ErrEnds},                            //
		{strings, "0a 01 6b 92 80 80 80 80 80 80 80 80 7f", 3, api.ErrOver}, //
		{strings, "0a", 1, api.ErrEnds},                                     // keys that are none
		{strings, "0a 80 00", 1, api.ErrLonger},                             //
		{strings, "0a 02 6b", 1, api.ErrEnds},                               //
		{strings, "0a 01 ff 12 00", 2, api.ErrUtf8},                         //
		{strings, "0a 03 6b c3 28 12 00", 3, api.ErrUtf8},                   //
		{strings, "0a 01 6b 12", 4, api.ErrEnds},                            // values that are none
		{strings, "0a 01 6b 12 81 00 61", 4, api.ErrLonger},                 //
		{strings, "0a 01 6b 12 02 61", 4, api.ErrEnds},                      //
		{strings, "0a 01 6b 12 02 61 ff", 6, api.ErrUtf8},                   //
		{numbers, "0a 01 6b 15 01 00 00", 4, api.ErrEnds},                   //
		{numbers, "0a 01 6b 10 01", 3, api.ErrPair},                         //
		{numbers, "0a 01 6b 15 01 00 00 00 00", 8, api.ErrPair},             //
		{mapped + api.TBool, "0a 01 6b 10 02", 4, api.ErrForm},              //
		{mapped + api.TInt32, "0a 01 6b 10 80 80 80 80 08", 4, api.ErrForm},
		{mapped + api.TInt32, "0a 01 6b 12 01 01", 3, api.ErrPair},      // no block
		{mapped + api.TMessage, "0a 01 6b 12", 4, api.ErrEnds},          //
		{mapped + api.TMessage, "0a 01 6b 12 01", 4, api.ErrEnds},       //
		{mapped + api.TMessage, "0a 01 6b 12 02 18 00", 6, api.ErrZero}, //
		{mapped + api.TMessage, "0a 01 6b 12 01 18", 6, api.ErrEnds},    //
		{mapped + api.TMessage, "0a 01 6b 12 01 00", 5, api.ErrNumber},  //
		{mapped + api.TMessage, "0a 01 6b 12 00 18 01", 5, api.ErrPair}, // what would be in the message
		{mapped + api.TMessage, "0a 01 6b", 3, api.ErrPair},             //
	} {
		first := sampleOf(c.number)
		inPair(t, c.number, first, row(c.b), c.at, c.e)
	}
}

// sampleOf is the right pair with the empty key of a map of w.W, without what is around it.
func sampleOf(number int) []byte {
	typ := number - mapped
	zero := [][]byte{row("00"), make([]byte, 8), row("00"), nil, nil, make([]byte, 4)}[kindOf(typ)]
	return rows(row("0a 00"), tag(2, kindOf(typ)), zero)
}

func TestKeysOfEveryType(t *testing.T) { // P1006, P11: keys that rise, fall or stand twice, of every type of key: every two of many
	s := wideSchema()
	for _, typ := range keyTypes {
		var keys [][]byte
		var values []api.Value
		for _, c := range bares()[typ] {
			keys, values = append(keys, row(c.b)), append(values, num(c.n))
		}
		for _, x := range []string{"", "\x00", "A", "a", "a\x00", "aa", "b", "é", "\U0010ffff"} {
			if typ == api.TString {
				keys, values = append(keys, rows(varint(len(x)), []byte(x))), append(values, text(x))
			}
		}
		number := keyed + typ
		pairOf := func(i, n int) []byte { return record(number, tag(1, kindOf(typ)), keys[i], tag(2, 0), varint(n)) }
		all, v := []byte(nil), dict()
		for i := range keys {
			all, v.List = append(all, pairOf(i, i)...), append(v.List, pair(values[i], num(i)))
			for j := range keys {
				both := rows(pairOf(i, 1), pairOf(j, 2))
				if i < j {
					reads(t, s, "w.W", both, one(number, dict(pair(values[i], num(1)), pair(values[j], num(2)))))
					continue
				}
				refuses(t, s, "w.W", both, len(both)-len(keys[j])-2, api.ErrKeys)
				refuses(t, s, "w.W", rows(both, pairOf(0, 0)), len(both)-len(keys[j])-2, api.ErrKeys)
			}
		}
		reads(t, s, "w.W", all, one(number, v))
		for j := range keys {
			again := rows(all, pairOf(j, 0))
			refuses(t, s, "w.W", again, len(again)-len(keys[j])-2, api.ErrKeys)
		}
	}
}

func TestKeysOrder(t *testing.T) { // P1006: keys that do not rise, with another fault ahead or behind
	s := smallSchema()
	for _, c := range []struct {
		b  string
		at int
		e  api.Errno
	}{
		{"22 05 0a 01 62 12 00 22 03 0a 01 61", 10, api.ErrKeys},             // and no value
		{"22 05 0a 01 62 12 00 22 05 0a 01 61 10 00", 10, api.ErrKeys},       // and another kind of value
		{"22 05 0a 01 62 12 00 22 07 0a 01 61 12 00 12 00", 10, api.ErrKeys}, // and more behind it
		{"22 05 0a 01 62 12 00 22 05 0a 01 62 12 05", 10, api.ErrKeys},       // and a value that runs out
		{"22 05 0a 01 62 12 00 22 07 0a 01 61 12 02 08 00", 10, api.ErrKeys}, // and a zero in it
		{"22 05 0a 01 62 12 00 22 06 0a 02 61 ff 12 00", 12, api.ErrUtf8},    // and not UTF-8
		{"22 05 0a 01 62 12 00 22 05 0a 81 00 61 12 00", 10, api.ErrLonger},  // and a length that is longer
		{"22 05 0a 01 62 12 00 22 05 0a 7f 61 12 00", 10, api.ErrEnds},       // and a key that runs out
		{"22 05 0a 01 62 12 00 22 05 8a 00 61 12 00", 9, api.ErrLonger},      // and a tag that is longer
		{"22 05 0a 01 62 12 00 22 04 08 01 12 00", 9, api.ErrPair},           // and another kind of key
		{"22 05 0a 01 62 12 00 22 02 12 00", 9, api.ErrPair},                 // and no key
		{"22 05 0a 01 62 12 00 22 7f 0a 01 61 12 00", 8, api.ErrEnds},        // and a pair that runs out
		{"22 05 0a 01 62 12 01 22 05 0a 01 61 12 00", 6, api.ErrEnds},        // behind a value that runs out
		{"22 05 0a 01 62 12 00 22 05 0a 01 63 12 00 22 05 0a 01 62 12 00", 17, api.ErrKeys},
		{"22 05 0a 01 62 12 00 22 05 0a 01 63 12 00 22 05 0a 01 63 12 00", 17, api.ErrKeys},
		{"22 05 0a 01 62 12 00 22 05 0a 01 61 12 00 22 05 0a 01 63 12 00", 10, api.ErrKeys},
		{"22 04 0a 00 12 00 22 04 0a 00 12 00", 9, api.ErrKeys},
	} {
		refuses(t, s, "p.M", row(c.b), c.at, c.e)
	}
}

func TestKeysOfThisMapAlone(t *testing.T) { // P1006: the keys of other maps, in the same message, in one around it or within, do not count
	s := load(t, `syntax = "proto3"; message M { map<int32, M> a = 1; map<int32, M> b = 2; repeated M c = 3; map<int32, int32> d = 4; }`)
	five := func(number int, in ...[]byte) []byte { return record(number, row("08 05"), record(2, in...)) }
	three := func(number int, in ...[]byte) []byte { return record(number, row("08 03"), record(2, in...)) }
	p5, p3 := pair(num(5), msg()), pair(num(3), msg())
	reads(t, s, "M", rows(five(1), three(2)), msg(at(1, dict(p5)), at(2, dict(p3))))
	reads(t, s, "M", five(1, three(1)), one(1, dict(pair(num(5), one(1, dict(p3))))))
	reads(t, s, "M", five(1, five(1), three(2)), one(1, dict(pair(num(5), msg(at(1, dict(p5)), at(2, dict(p3)))))))
	reads(t, s, "M", rows(three(1, five(1)), five(1, three(1))), one(1, dict(pair(num(3), one(1, dict(p5))), pair(num(5), one(1, dict(p3))))))
	reads(t, s, "M", rows(record(3, five(1)), record(3, three(1))), one(3, list(one(1, dict(p5)), one(1, dict(p3)))))
	// What lies within a pair does not take the place of its key.
	b := rows(five(1, three(1)), row("0a 04 08 04 12 00"))
	refuses(t, s, "M", b, len(b)-3, api.ErrKeys)
	b = rows(three(1, five(1)), row("0a 04 08 04 12 00"))
	reads(t, s, "M", b, one(1, dict(pair(num(3), one(1, dict(p5))), pair(num(4), msg()))))
	b = rows(five(1), five(2), three(2))
	refuses(t, s, "M", b, len(b)-3, api.ErrKeys)
}

func TestPairsOfEveryType(t *testing.T) { // P1006: the values of every type, zeros too, in many pairs
	s := wideSchema()
	for typ, l := range bares() {
		all, v := []byte(nil), dict()
		for i, c := range slices.Concat(l, l) {
			key := fmt.Sprintf("%03d", i)
			all, v.List = append(all, record(mapped+typ, record(1, []byte(key)), tag(2, kindOf(typ)), row(c.b))...), append(v.List, kv(key, num(c.n)))
		}
		reads(t, s, "w.W", all, one(mapped+typ, v))
	}
	for _, typ := range []int{api.TString, api.TBytes} {
		all, v := []byte(nil), dict()
		for _, x := range []string{"", "a", "zz", "é"} {
			all, v.List = append(all, record(mapped+typ, record(1, []byte(x)), record(2, []byte(x)))...), append(v.List, kv(x, text(x)))
		}
		stands(t, all, one(mapped+typ, v))
	}
	stands(t, record(mapV, row("08 ff ff ff ff ff ff ff ff ff 01 12 02 08 01")), one(mapV, dict(pair(num(-1), one(1, num(-1))))))
}
