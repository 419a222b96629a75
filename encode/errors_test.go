package encode_test

import (
	"bytes"
	"math"
	"strings"
	"testing"

	"sigil/api"
	"sigil/encode"
	"sigil/tree"
)

// crowd is a normal message of the wide schema on which more values hang than may be: most of them share their memory.
func crowd() api.Value {
	row := make([]api.Value, 2048)
	for i := range row {
		row[i] = msg()
	}
	rows := make([]api.Value, 2048)
	for i := range rows {
		rows[i] = one(repeated+api.TMessage, list(row...))
	}
	return one(repeated+api.TMessage, list(rows...))
}

// question is what the calls are asked.
type question struct {
	name   string
	v      api.Value
	number int
}

// reason is something for which a question is refused, and what has it.
type reason struct {
	e    api.Errno
	make func(q *question)
}

// reasons are the reasons of P901, in their order; The numbers of the last three rise.
func reasons() []reason {
	add := func(number int, v api.Value) func(*question) {
		return func(q *question) { q.v.Fields = append(q.v.Fields, at(number, v)) }
	}
	return []reason{
		{api.ErrLong, func(q *question) { q.name = strings.Repeat("w", api.MaxName+1) }},
		{api.ErrName, func(q *question) {
			if len(q.name) <= api.MaxName { // a long name is none anyway
				q.name = "w.N"
			}
		}},
		{api.ErrLong, add(ofV, one(2, crowd()))},
		{api.ErrDepth, add(listV, list(one(2, nested(197, num(0)))))},
		{api.ErrField, func(q *question) { q.number = 18 }},
		{api.ErrType, add(18, num(0))},
		{api.ErrNormal, add(api.TInt32, num(0))},
		{api.ErrDepth, add(member+api.TMessage, chain(63, api.TMessage, msg()))},
		{api.ErrSize, add(tail, text(strings.Repeat("x", api.MaxMessage)))},
	}
}

// first is the error of the first reason that a call has.
func first(l []reason, field bool) api.Errno {
	for _, r := range l {
		if field || r.e != api.ErrField {
			return r.e
		}
	}
	return api.OK
}

func TestOrderOfErrors(t *testing.T) { // P901: each error of each call alone, two at a time in either order in the tree, all at once
	e := encode.New(wideSchema())
	asked := func(made, by []reason) {
		t.Helper()
		q := question{"w.W", msg(), single + api.TInt32}
		for _, r := range made {
			r.make(&q)
		}
		refused(t, e, q.name, q.v, q.number, first(by, false), first(by, true))
	}
	all := reasons()
	asked(nil, nil)
	for i, r := range all {
		asked([]reason{r}, []reason{r})
		asked(all[i:], all[i:])
		for _, behind := range all[i+1:] {
			asked([]reason{r, behind}, []reason{r, behind})
			// Entries whose numbers do not rise are not normal: behind ErrNormal it would be this.
			if i < 7 {
				asked([]reason{behind, r}, []reason{r, behind})
			}
		}
	}
}

func TestNames(t *testing.T) { // P901, P8: names of all lengths, and of what is no message
	full := strings.Repeat("n", 252)
	s := load(t, `syntax = "proto3"; package p; enum E { Z = 0; } message `+full+` { int32 a = 1; } message M { message N { } }`)
	e := encode.New(s)
	for name, want := range map[string]api.Errno{
		"p." + full: api.OK, "p.M": api.OK, "p.M.N": api.OK,
		"p." + full[1:]: api.ErrName, "p." + full + "n": api.ErrName, "p." + full + "nn": api.ErrLong,
		strings.Repeat("x", 255): api.ErrName, strings.Repeat("x", 256): api.ErrLong, strings.Repeat("x", 100000): api.ErrLong,
		"": api.ErrName, "p": api.ErrName, "p.E": api.ErrName, "M": api.ErrName, "N": api.ErrName, "p.N": api.ErrName, ".p.M": api.ErrName, "p.M\x00": api.ErrName, "p.\xff": api.ErrName, "p.m": api.ErrName,
	} {
		field := want
		if want == api.OK {
			field = api.ErrField
		}
		refused(t, e, name, msg(), 2, want, field)
		if want != api.OK {
			refused(t, e, name, num(1), 1, want, want)
		} else {
			refused(t, e, name, num(1), 2, api.ErrType, api.ErrField)
		}
	}
	written(t, s, e, "p."+full, one(1, num(1)), row("08 01"))
}

func TestNumbersOfNoField(t *testing.T) { // P901: ErrField of Field, ahead of what is wrong with the tree
	e := encode.New(load(t, `syntax = "proto3"; message M { reserved 4; int32 a = 1; N n = 2; M m = 5; } message N { int32 b = 3; }`))
	for _, number := range []int{0, -1, 3, 4, 6, 8, 19000, api.MaxNumber, api.MaxNumber + 1, math.MaxInt, math.MinInt, 1 << 32, 1<<32 + 1, -1<<32 + 1, 257} {
		refused(t, e, "M", msg(), number, api.OK, api.ErrField)
		refused(t, e, "M", one(1, num(5)), number, api.OK, api.ErrField)
		refused(t, e, "M", one(number, num(5)), number, api.ErrType, api.ErrField)
		refused(t, e, "M", one(1, num(0)), number, api.ErrNormal, api.ErrField)
		refused(t, e, "M", num(0), number, api.ErrType, api.ErrField)
		refused(t, e, "M", api.Value{}, number, api.ErrType, api.ErrField)
		refused(t, e, "M", chain(64, 5, msg()), number, api.ErrDepth, api.ErrField)
		refused(t, e, "M", chain(200, 5, msg()), number, api.ErrDepth, api.ErrDepth)
		refused(t, e, "K", msg(), number, api.ErrName, api.ErrName)
	}
	for _, number := range []int{1, 2, 5} {
		refused(t, e, "M", msg(), number, api.OK, api.OK)
		refused(t, e, "M", one(1, num(0)), number, api.ErrNormal, api.ErrNormal)
		refused(t, e, "M", num(0), number, api.ErrType, api.ErrType)
		refused(t, e, "M", chain(64, 5, msg()), number, api.ErrDepth, api.ErrDepth)
		refused(t, e, "M", chain(63, 5, msg()), number, api.OK, api.OK)
	}
}

func TestWrongElsewhere(t *testing.T) { // P901: Field and Spans look at the whole tree, not at the field that is asked for alone
	e := encode.New(load(t, small))
	for _, c := range []struct {
		v    api.Value
		want api.Errno
	}{
		{msg(at(1, num(1)), at(2, text("\xff"))), api.ErrType}, {msg(at(1, num(1)), at(7, one(7, one(1, text("x"))))), api.ErrType}, {msg(at(1, num(1)), at(9, num(1))), api.ErrType},
		{msg(at(1, num(1)), at(3, list())), api.ErrNormal}, {msg(at(1, num(1)), at(1, num(1))), api.ErrNormal}, {msg(at(2, text("x")), at(1, num(1))), api.ErrNormal},
		{msg(at(1, num(1)), at(6, num(1)), at(7, msg())), api.ErrNormal}, {msg(at(1, num(1)), at(4, dict(kv("b", msg()), kv("a", msg())))), api.ErrNormal},
		{msg(at(1, num(1)), at(4, dict(kv("a", one(1, num(0)))))), api.ErrNormal}, {msg(at(1, num(1)), at(7, chain(63, 7, msg()))), api.ErrDepth},
		{msg(at(1, num(1)), at(2, text(strings.Repeat("x", 1<<20)))), api.ErrSize}, {msg(at(1, num(1)), at(3, api.Value{Kind: api.VList, List: []api.Value{num(1)}, Num: 1})), api.ErrType},
	} {
		for number := 1; number <= 7; number++ {
			refused(t, e, "p.M", c.v, number, c.want, c.want)
		}
		refused(t, e, "p.M", c.v, 8, c.want, api.ErrField)
	}
}

func TestMostValues(t *testing.T) { // P6: MaxValues values and one more
	e := encode.New(load(t, small))
	l := make([]api.Value, api.MaxValues-1)
	for i := range l {
		l[i] = num(1)
	}
	refused(t, e, "p.M", one(3, list(l...)), 8, api.ErrLong, api.ErrLong)
	if _, x := e.Field("p.M", one(3, list(l[1:]...)), 8); x != api.ErrField {
		t.Errorf("P901: Field answers %v of MaxValues values", x)
	}
	if _, x := e.Encode("p.M", one(3, list(l[1:]...))); x != api.ErrSize {
		t.Errorf("P901: Encode answers %v of MaxValues values", x)
	}
}

func TestMostNest(t *testing.T) { // P6: MaxNest values in one another and one more, of whatever kinds
	e := encode.New(load(t, small))
	for _, c := range []struct {
		v           api.Value
		want, field api.Errno
	}{
		{nested(199, num(1)), api.ErrType, api.ErrField}, {nested(200, num(1)), api.ErrDepth, api.ErrDepth}, {nested(50000, num(1)), api.ErrDepth, api.ErrDepth},
		{chain(199, 7, msg()), api.ErrDepth, api.ErrField}, {chain(200, 7, msg()), api.ErrDepth, api.ErrDepth}, {chain(199, 7, num(0)), api.ErrType, api.ErrField}, {chain(200, 7, num(0)), api.ErrDepth, api.ErrDepth},
	} {
		refused(t, e, "p.M", c.v, 8, c.want, c.field)
		refused(t, e, "p.M", c.v, 1, c.want, c.want)
	}
	ring := make([]api.Value, 1)
	ring[0] = list(ring...)
	if _, x := e.Field("p.M", ring[0], 8); x != api.ErrLong {
		t.Errorf("P6: Field answers %v of a list that holds itself", x)
	}
}

func TestMostDepth(t *testing.T) { // P7: 64 and 65 messages in one another, by fields, lists, maps, members
	s := wideSchema()
	for _, number := range []int{single + api.TMessage, optional + api.TMessage, repeated + api.TMessage, mapped + api.TMessage, member + api.TMessage} {
		v, want := msg(), []byte(nil)
		for range 63 {
			switch number {
			case repeated + api.TMessage:
				v, want = one(number, list(v)), record(number, want)
			case mapped + api.TMessage:
				v, want = one(number, dict(kv("", v))), record(number, row("0a 00"), record(2, want))
			default:
				v, want = one(number, v), record(number, want)
			}
		}
		fresh(t, s, "w.W", v, want)
		over := one(single+api.TMessage, v)
		refused(t, encode.New(s), "w.W", over, 1, api.ErrDepth, api.ErrDepth)
		refused(t, encode.New(s), "w.W", over, 18, api.ErrDepth, api.ErrField)
	}
}

func TestMostSize(t *testing.T) { // P12: canonical bytes of MaxMessage and of one more
	e := encode.New(wideSchema())
	big := func(n int) api.Value { return text(strings.Repeat("x", n)) }
	for name, make := range map[string]func(n int) api.Value{
		"a text":          func(n int) api.Value { return one(api.TBytes, big(n)) },
		"in a list":       func(n int) api.Value { return one(repeated+api.TString, list(text(""), big(n))) },
		"in a map":        func(n int) api.Value { return one(mapped+api.TBytes, dict(kv("", big(n)))) },
		"as a key":        func(n int) api.Value { return one(mapped+api.TBytes, dict(pair(big(n), text("")))) },
		"in messages":     func(n int) api.Value { return chain(60, api.TMessage, one(api.TBytes, big(n))) },
		"beside a number": func(n int) api.Value { return msg(at(1, num(1)), at(api.TBytes, big(n)), at(far, num(-1))) },
	} {
		n, x := e.Size("w.W", make(1<<19))
		if x != api.OK {
			t.Fatalf("P903: %s: %v", name, x)
		}
		most := api.MaxMessage - (n - 1<<19)
		b, x := e.Encode("w.W", make(most))
		if x != api.OK || len(b) != api.MaxMessage {
			t.Errorf("P901: %s: Encode answers %d bytes, %v", name, len(b), x)
		}
		refused(t, e, "w.W", make(most), single+api.TInt32, api.OK, api.OK)
		refused(t, e, "w.W", make(most+1), single+api.TInt32, api.ErrSize, api.ErrSize)
		refused(t, e, "w.W", make(most+1), 18, api.ErrSize, api.ErrField)
	}
	bools := make([]api.Value, api.MaxMessage-4)
	for i := range bools {
		bools[i] = num(i & 1)
	}
	block := []byte(strings.Repeat("\x01\x00", api.MaxMessage/2-2)[:api.MaxMessage-5])
	want := record(repeated+api.TBool, block)
	if b, x := e.Encode("w.W", one(repeated+api.TBool, list(bools[1:]...))); x != api.OK || !bytes.Equal(b, want) {
		t.Errorf("P903: a block as large as may be: %s, %v", some(b), x)
	}
	if b, x := e.Encode("w.W", one(repeated+api.TBool, list(bools...))); x != api.ErrSize || len(b) > 0 {
		t.Errorf("P901: a block of one too many: %s, %v", some(b), x)
	}
}

func TestAsTreeSays(t *testing.T) { // P901, P906: of made trees, broken in one thing or two, each call answers what tree.Size does
	s := wideSchema()
	e := encode.New(s)
	seen := map[api.Errno]int{}
	for seed := range int64(1500) {
		for _, v := range made(seed, "w.W") {
			n, _, want := tree.Size(s, "w.W", v)
			seen[want]++
			refused(t, e, "w.W", v, repeated+api.TString, want, want)
			refused(t, e, "w.W", v, 18, want, api.ErrField)
			if b, _ := e.Encode("w.W", v); len(b) != n {
				t.Errorf("P906: Encode(%s) has %d bytes, tree.Size says %d", short(v), len(b), n)
			}
			if _, x := tree.Normal(s, "w.W", v); x != want {
				t.Errorf("P906: Normal answers %v of %s, Size %v", x, short(v), want)
			}
		}
	}
	for _, want := range []api.Errno{api.OK, api.ErrType, api.ErrNormal} {
		if seen[want] < 200 {
			t.Errorf("%d of the made trees are %v: too few", seen[want], want)
		}
	}
}
