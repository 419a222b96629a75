package tree_test

import (
	"math"
	"strings"
	"testing"

	"sigil/api"
	"sigil/tree"
)

func TestDepth(t *testing.T) { // P807: messages on a way, through lists and fields of whatever kinds
	deep(t, api.Value{}, 0)
	deep(t, num(1), 0)
	deep(t, list(num(1), list()), 0)
	deep(t, msg(), 1)
	deep(t, one(1, num(1)), 1)
	deep(t, one(1, msg()), 2)
	deep(t, one(1, list(num(1), msg(), num(1))), 2)
	deep(t, one(1, dict(pair(num(1), msg()))), 2)
	deep(t, one(1, dict(pair(msg(), num(1)))), 2)
	deep(t, dict(pair(msg(), num(1)), pair(num(1), one(1, msg()))), 2)
	deep(t, list(one(1, one(2, msg())), msg(), one(1, msg())), 3)
	deep(t, list(msg(), one(1, msg()), one(1, one(2, msg()))), 3)
	deep(t, msg(at(1, num(1)), at(1, one(5, list(msg()))), at(2, msg())), 3)
	// What a kind does not name counts, too.
	deep(t, api.Value{Kind: api.VNum, Fields: []api.Entry{at(1, msg())}}, 1)
	deep(t, api.Value{Kind: api.VMessage, List: []api.Value{msg()}}, 2)
	deep(t, api.Value{Kind: 99, List: []api.Value{num(1)}, Fields: []api.Entry{at(1, one(1, msg()))}}, 2)
	deep(t, api.Value{Kind: api.VText, List: []api.Value{one(1, msg())}, Fields: []api.Entry{at(1, num(1))}}, 2)
	deep(t, chain(64, 7, msg()), 65)
	deep(t, chain(199, 7, msg()), 200)
	deep(t, chain(200, 7, msg()), 0)
	deep(t, nested(199, msg()), 1)
	deep(t, nested(200, msg()), 0)
	deep(t, msg(at(1, nested(199, msg()))), 0)
}

// numberSizes are numbers of types that are written as varints, and their sizes.
var numberSizes = map[int]map[int]int{
	api.TInt32:  {1: 1, 127: 1, 128: 2, 16383: 2, 16384: 3, math.MaxInt32: 5, -1: 10, math.MinInt32: 10},
	api.TInt64:  {1: 1, 127: 1, 128: 2, 1<<35 - 1: 5, 1 << 35: 6, 1<<56 - 1: 8, 1 << 56: 9, math.MaxInt: 9, -1: 10, math.MinInt: 10},
	api.TUint32: {1: 1, 128: 2, 1<<21 - 1: 3, 1 << 21: 4, 1<<28 - 1: 4, 1 << 28: 5, math.MaxUint32: 5},
	api.TUint64: {1: 1, 128: 2, math.MaxInt: 9, math.MinInt: 10, -1: 10},
	api.TSint32: {1: 1, -1: 1, 63: 1, -64: 1, 64: 2, -65: 2, math.MaxInt32: 5, math.MinInt32: 5},
	api.TSint64: {1: 1, -1: 1, 63: 1, -64: 1, 64: 2, -65: 2, 1<<62 - 1: 9, 1 << 62: 10, -1 << 62: 9, -1<<62 - 1: 10, math.MaxInt: 10, math.MinInt: 10},
	api.TBool:   {1: 1},
	api.TEnum:   {1: 1, 127: 1, 128: 2, math.MaxInt32: 5, -1: 10, math.MinInt32: 10},
}

// numberSize tells the size of a number that is in the table, or has a fixed size.
func numberSize(typ, n int) int {
	switch typ {
	case api.TDouble, api.TFixed64, api.TSfixed64:
		return 8
	case api.TFloat, api.TFixed32, api.TSfixed32:
		return 4
	}
	if n == 0 {
		return 1
	}
	return numberSizes[typ][n]
}

// tag tells how many bytes the tag of a number below 2048 has.
func tag(number int) int {
	if number < 16 {
		return 1
	}
	return 2
}

func TestSizeOfNumbers(t *testing.T) { // P808: numbers of every type with every card, packed and in pairs
	s := load(t, wide())
	for typ := api.TDouble; typ <= api.TEnum; typ++ {
		if typ == api.TString || typ == api.TBytes {
			continue
		}
		all := []int{1}
		for n := range numberSizes[typ] {
			all = append(all, n)
		}
		switch typ {
		case api.TFloat, api.TFixed32:
			all = append(all, math.MaxUint32)
		case api.TSfixed32:
			all = append(all, -1, math.MinInt32, math.MaxInt32)
		case api.TDouble, api.TFixed64, api.TSfixed64:
			all = append(all, -1, math.MinInt, math.MaxInt)
		}
		zero, sum := numberSize(typ, 0), 0
		var l []api.Value
		for _, n := range all {
			k := numberSize(typ, n)
			sized(t, s, "w.W", one(single+typ, num(n)), tag(single+typ)+k)
			sized(t, s, "w.W", one(optional+typ, num(n)), 2+k)
			sized(t, s, "w.W", one(member+typ, num(n)), 2+k)
			sized(t, s, "w.W", one(repeated+typ, list(num(n))), 2+1+k)
			sized(t, s, "w.W", one(repeated+typ, list(num(n), num(0), num(n))), 2+1+2*k+zero)
			sized(t, s, "w.W", one(mapped+typ, dict(kv("", num(n)))), 2+1+2+1+k)
			sized(t, s, "w.W", one(mapped+typ, dict(kv("", num(0)), kv("abc", num(n)))), 2+1+2+1+zero+2+1+5+1+k)
			if typ >= api.TInt32 && typ <= api.TBool {
				sized(t, s, "w.W", one(keyed+typ, dict(pair(num(n), num(0)))), 2+1+1+k+1+1)
			}
			l, sum = append(l, num(n)), sum+k
		}
		sized(t, s, "w.W", one(repeated+typ, list(l...)), 2+1+sum)
		sized(t, s, "w.W", one(optional+typ, num(0)), 2+zero)
		sized(t, s, "w.W", one(repeated+typ, list(make0(200)...)), 2+2+200*zero)
	}
}

// make0 are so many zeros.
func make0(n int) []api.Value {
	l := make([]api.Value, n)
	for i := range l {
		l[i] = num(0)
	}
	return l
}

func TestSizeOfTexts(t *testing.T) { // P808: texts with every card, of all lengths of their length
	s := load(t, wide())
	for _, typ := range []int{api.TString, api.TBytes} {
		for n, k := range map[int]int{0: 1, 1: 1, 127: 1, 128: 2, 16383: 2, 16384: 3, 200000: 3} {
			v := text(strings.Repeat("x", n))
			if n > 0 {
				sized(t, s, "w.W", one(single+typ, v), 1+k+n)
			}
			sized(t, s, "w.W", one(optional+typ, v), 2+k+n)
			sized(t, s, "w.W", one(member+typ, v), 2+k+n)
			sized(t, s, "w.W", one(repeated+typ, list(v)), 2+k+n)
			sized(t, s, "w.W", one(repeated+typ, list(v, text(""), v)), 2*(2+k+n)+3)
			inner := 2 + 1 + k + n
			sized(t, s, "w.W", one(mapped+typ, dict(kv("", v))), 2+lengthSize(inner)+inner)
			sized(t, s, "w.W", one(keyed+api.TString, dict(pair(v, num(0)))), 2+lengthSize(1+k+n+2)+1+k+n+2)
		}
	}
}

// lengthSize tells how many bytes the varint of a length has.
func lengthSize(n int) int {
	size := 1
	for ; n > 127; n >>= 7 {
		size++
	}
	return size
}

func TestSizeOfMessages(t *testing.T) { // P808: messages with every card, and tags of every length
	s := load(t, wide())
	v := one(3, num(150)) // three bytes
	sized(t, s, "w.W", one(api.TMessage, v), 2+1+3)
	sized(t, s, "w.W", one(api.TMessage, msg()), 2+1)
	sized(t, s, "w.W", one(optional+api.TMessage, v), 2+1+3)
	sized(t, s, "w.W", one(member+api.TMessage, v), 2+1+3)
	sized(t, s, "w.W", one(repeated+api.TMessage, list(v, msg(), v)), 6+3+6)
	sized(t, s, "w.W", one(mapped+api.TMessage, dict(kv("", msg()), kv("k", v))), 2+1+2+2+2+1+3+2+3)
	sized(t, s, "w.W", chain(3, api.TMessage, v), 3+3*3)
	sized(t, s, "w.V", one(2, v), 2+3)
	sized(t, s, "w.W", one(far, num(1)), 6)
	sized(t, s, "w.W", one(ofV, one(1, num(1))), 3+2)
	// A message of 127 bytes, and of 128.
	sized(t, s, "w.W", one(api.TMessage, one(api.TBytes, text(strings.Repeat("x", 125)))), 2+1+127)
	sized(t, s, "w.W", one(api.TMessage, one(api.TBytes, text(strings.Repeat("x", 126)))), 2+2+128)
	wideNumbers := load(t, `syntax = "proto3"; message M { bool a = 15; bool b = 16; bool c = 2047; bool d = 2048; bool e = 262143; bool f = 262144; bool g = 33554431; bool h = 33554432; bool i = 536870911; repeated bytes r = 2046; repeated bool p = 262142; map<bool, bool> m = 33554430; }`)
	for number, k := range map[int]int{15: 1, 16: 2, 2047: 2, 2048: 3, 262143: 3, 262144: 4, 33554431: 4, 33554432: 5, 536870911: 5} {
		sized(t, wideNumbers, "M", one(number, num(1)), k+1)
	}
	sized(t, wideNumbers, "M", one(2046, list(text("a"), text(""))), 2+2+2+1)
	sized(t, wideNumbers, "M", one(262142, list(num(0), num(1))), 3+1+2)
	sized(t, wideNumbers, "M", one(33554430, dict(pair(num(0), num(0)), pair(num(1), num(0)))), 2*(4+1+4))
}

func TestMostSize(t *testing.T) { // P808: canonical bytes of MaxMessage and of one more
	s := load(t, wide())
	big := func(n int) api.Value { return text(strings.Repeat("x", n)) }
	for name, make := range map[string]func(n int) api.Value{ // with room for less than 64 bytes beside the text
		"a text":           func(n int) api.Value { return one(api.TBytes, big(n)) },
		"a string":         func(n int) api.Value { return one(api.TString, big(n)) },
		"in a list":        func(n int) api.Value { return one(repeated+api.TBytes, list(text(""), big(n))) },
		"in a map":         func(n int) api.Value { return one(mapped+api.TBytes, dict(kv("", big(n)))) },
		"as a key":         func(n int) api.Value { return one(mapped+api.TBytes, dict(pair(big(n), text("")))) },
		"in messages":      func(n int) api.Value { return chain(5, api.TMessage, one(api.TBytes, big(n))) },
		"beside a number":  func(n int) api.Value { return msg(at(1, num(1)), at(api.TBytes, big(n)), at(far, num(-1))) },
		"of two texts":     func(n int) api.Value { return msg(at(api.TString, big(n/2)), at(api.TBytes, big(n-n/2))) },
		"in a list of one": func(n int) api.Value { return one(repeated+api.TMessage, list(msg(), one(api.TBytes, big(n)))) },
	} {
		small := make(1 << 19)
		n, _, e := tree.Size(s, "w.W", small)
		if e != api.OK {
			t.Fatalf("P808: %s: %v", name, e)
		}
		beside := n - 1<<19
		sized(t, s, "w.W", make(api.MaxMessage-beside), api.MaxMessage)
		for _, more := range []int{1, 2, 1000, 1 << 20} {
			if got := size(t, s, "w.W", make(api.MaxMessage-beside+more)); !fault(api.ErrSize).is(got.e, got.at) {
				t.Errorf("P808: %s, %d too many: %v", name, more, got)
			}
		}
	}
	// Numbers in a block: the tag has two bytes, the length three.
	sized(t, s, "w.W", one(repeated+api.TBool, list(make0(api.MaxMessage-5)...)), api.MaxMessage)
	if got := size(t, s, "w.W", one(repeated+api.TBool, list(make0(api.MaxMessage-4)...))); !fault(api.ErrSize).is(got.e, got.at) {
		t.Errorf("P808: a block of one too many: %v", got)
	}
}

func TestSumOfSizes(t *testing.T) { // P812: a field more has as many bytes more as by itself, whatever stands beside it
	s := load(t, wide())
	fields := []api.Entry{
		at(1, num(1)), at(3, num(-1)), at(api.TString, text("hi")), at(api.TMessage, one(2, num(5))), at(optional+1, num(0)), at(repeated+3, list(num(0), num(300))), at(repeated+api.TString, list(text(""), text("x"))),
		at(mapped+3, dict(kv("a", num(1)), kv("b", num(300)))), at(member+api.TMessage, msg()), at(ofV, one(1, num(2))), at(far, num(5)),
	}
	sized(t, s, "w.W", msg(), 0)
	sum := 0
	for i, f := range fields {
		n, _, e := tree.Size(s, "w.W", msg(f))
		if e != api.OK || n == 0 {
			t.Fatalf("P812: Size of field %d: %d, %v", f.Number, n, e)
		}
		sum += n
		sized(t, s, "w.W", msg(fields[:i+1]...), sum)
		for j, other := range fields[:i] {
			m, _, _ := tree.Size(s, "w.W", msg(other))
			sized(t, s, "w.W", msg(fields[j], f), n+m)
		}
	}
}

func TestZero(t *testing.T) { // P809: of every type, and of what is none
	for typ := api.TDouble; typ <= api.TMessage; typ++ {
		want := api.Value{Kind: api.VNum}
		switch typ {
		case api.TString, api.TBytes:
			want.Kind = api.VText
		case api.TMessage:
			want.Kind = api.VMessage
		}
		if v, e := tree.Zero(typ); e != api.OK || !same(v, want) {
			t.Errorf("P809: Zero(%d) = %s, %v", typ, short(v), e)
		}
	}
	for _, typ := range []int{0, 18, -1, 19, 34, math.MaxInt, math.MinInt, 1 << 32, 1<<32 + 1} {
		if v, e := tree.Zero(typ); e != api.ErrArg || !same(v, api.Value{}) {
			t.Errorf("P809: Zero(%d) = %s, %v", typ, short(v), e)
		}
	}
}
