package json_test

import (
	"fmt"
	"slices"
	"strings"
	"testing"

	"sigil/api"
	"sigil/bind"
	"sigil/json"
	"sigil/tree"
)

func TestTypeNames(t *testing.T) { // P1205, P1206: names of MaxName bytes and of one more, such that the schema has not; ahead of whatever is wrong with the tree or the text
	name := strings.Repeat("n", api.MaxName-1)
	s := load(t, fmt.Sprintf(`syntax = "proto3"; message %s { int32 a = 1; } message M { %s m = 1; } enum E { Z = 0; }`, name, name))
	prints(t, s, name, one(1, num(1)), `{"a":1}`)
	prints(t, s, "M", one(1, one(1, num(1))), `{"m":{"a":1}}`)
	trees := []api.Value{msg(), one(1, num(1)), one(1, num(0)), num(0), {}, chain(300, 1, msg())}
	texts := []string{`{}`, `{"a":1}`, ``, `{`, `"\q"`, "\xff", `[]`, strings.Repeat("[", 300), strings.Repeat(" ", api.MaxJson+1)}
	check := func(name string, want api.Errno) {
		t.Helper()
		for _, v := range trees {
			printRefuses(t, s, name, v, want)
		}
		for _, text := range texts {
			if v, bad := json.New(s).Parse(name, text); bad != (api.Fault{Err: want}) || !same(v, api.Value{}) {
				t.Errorf("P1206: Parse(%.40q, %s) = %s, %+v, want %v at 0", name, some(text), short(v), bad, want)
			}
		}
	}
	check(strings.Repeat("n", api.MaxName+1), api.ErrLong)
	check(strings.Repeat("n", 100000), api.ErrLong)
	check(strings.Repeat("\xff", api.MaxName+1), api.ErrLong)
	check(strings.Repeat("n", api.MaxName), api.ErrName)
	for _, name := range []string{"", "E", ".M", "M.", "M.m", "m", "N", "M ", "\xff", "int32"} {
		check(name, api.ErrName)
	}
}

// chain is so many messages in one another, by a single field, around one that is given.
func chain(n, number int, v api.Value) api.Value {
	for range n {
		v = one(number, v)
	}
	return v
}

func TestTreesRefused(t *testing.T) { // P1205: the error that tree.Size answers
	s := smallSchema()
	nest := api.Value{Kind: api.VList}
	for range 200 {
		nest = list(nest)
	}
	many := list()
	many.List = make([]api.Value, api.MaxValues)
	for _, c := range []struct {
		v    api.Value
		want api.Errno
	}{
		{api.Value{}, api.ErrType}, {num(0), api.ErrType}, {one(9, num(0)), api.ErrType}, {one(1, text("")), api.ErrType}, {one(2, text("\xff")), api.ErrType}, {one(1, num(1<<31)), api.ErrType}, {one(5, num(2)), api.ErrType},
		{one(1, num(0)), api.ErrNormal}, {one(3, list()), api.ErrNormal}, {msg(at(2, text("x")), at(1, num(1))), api.ErrNormal}, {msg(at(1, num(1)), at(1, num(1))), api.ErrNormal}, {msg(at(6, num(1)), at(7, msg())), api.ErrNormal}, {one(4, dict(kv("b", msg()), kv("a", msg()))), api.ErrNormal}, {one(4, dict(kv("a", msg()), kv("a", msg()))), api.ErrNormal},
		{chain(64, 7, msg()), api.ErrDepth}, {chain(64, 7, one(1, num(0))), api.ErrNormal}, {chain(64, 7, num(0)), api.ErrType}, {chain(200, 7, num(0)), api.ErrDepth},
		{nest, api.ErrDepth}, {many, api.ErrLong}, {one(3, many), api.ErrLong},
		{one(2, text(strings.Repeat("x", 1<<20))), api.ErrSize}, {msg(at(2, text(strings.Repeat("x", 1<<20))), at(5, num(2))), api.ErrType},
	} {
		_, _, e := tree.Size(s, "p.M", c.v)
		if e != c.want {
			t.Errorf("Size(%s) answers %v, want %v", short(c.v), e, c.want)
		}
		printRefuses(t, s, "p.M", c.v, c.want)
	}
}

// nested is a text of so many messages in one another, each in the next by one of some ways in turns, around a value; it tells the place of that value too.
func nested(ways [][2]string, n int, value string) (string, int) {
	ahead, behind := "", ""
	for i := range n {
		way := ways[i%len(ways)]
		ahead, behind = ahead+way[0], way[1]+behind
	}
	return ahead + value + behind, len(ahead)
}

func TestDepth(t *testing.T) { // P1206: 64 and 65 messages in one another, by fields, lists and maps
	s := wideSchema()
	field, inList, inMap := [2]string{`{"s17":`, `}`}, [2]string{`{"r17":[`, `]}`}, [2]string{`{"m17":{"k":`, `}}`}
	inOneof, spread := [2]string{`{"x17":`, `}`}, [2]string{" { \"tail\" : \"x\" , \"r_17\" : [ \n", " ] } "}
	for _, ways := range [][][2]string{{field}, {inList}, {inMap}, {inOneof}, {spread}, {field, inList, inMap}, {inMap, inOneof}, {inList, spread, field}} {
		for _, c := range []struct {
			value string
			err   api.Errno
		}{{`{}`, api.OK}, {`{"s3":1}`, api.OK}, {`{"nope":1}`, api.ErrMember}, {`1`, api.ErrShape}, {`[]`, api.ErrShape}, {`"x"`, api.ErrShape}, {`{"s17":null,"x17":null}`, api.OK}, {`{"r17":[],"m17":{}}`, api.OK}} {
			text, place := nested(ways, 63, c.value) // it is the 64th
			if c.err == api.ErrMember {
				place++
			}
			if c.err != api.OK {
				refuses(t, s, "w.W", text, place, c.err)
				continue
			}
			v, bad := json.New(s).Parse("w.W", text)
			if bad != (api.Fault{}) || tree.Depth(v) != 64 {
				t.Errorf("P1206: Parse(%s) = %s, %+v, want 64 messages", some(text), short(v), bad)
			}
			reads(t, s, "w.W", text, v)
		}
		for _, c := range []struct {
			value string
			err   api.Errno
		}{{`{}`, api.ErrDepth}, {`{"nope":1}`, api.ErrDepth}, {`{"s17":{}}`, api.ErrDepth}, {`1`, api.ErrShape}, {`[]`, api.ErrShape}, {`[{}]`, api.ErrShape}, {`"x"`, api.ErrShape}, {`true`, api.ErrShape}} {
			text, place := nested(ways, 64, c.value) // it would be the 65th
			refuses(t, s, "w.W", text, place, c.err)
			deeper, place := nested(ways, 64, " "+c.value)
			refuses(t, s, "w.W", deeper, place+1, c.err)
		}
		last := ways[63%len(ways)]
		text, place := nested(ways, 64, `null`)
		if strings.Contains(last[0], "[") || strings.Contains(last[0], `"k"`) {
			refuses(t, s, "w.W", text, place, api.ErrShape)
		} else {
			v, bad := json.New(s).Parse("w.W", text)
			if bad != (api.Fault{}) || tree.Depth(v) != 64 {
				t.Errorf("P1206: Parse(%s) = %s, %+v, want 64 messages", some(text), short(v), bad)
			}
		}
	}
	// Ahead of the 65th, and behind it.
	text, _ := nested([][2]string{field}, 63, `{"nope":1,"s17":{}}`)
	refuses(t, s, "w.W", text, strings.Index(text, `"nope"`), api.ErrMember)
	text, _ = nested([][2]string{field}, 63, `{"s17":{},"nope":1}`)
	refuses(t, s, "w.W", text, strings.LastIndex(text, `{}`), api.ErrDepth)
	text, _ = nested([][2]string{field}, 63, `{"x3":1,"x17":{}}`)
	refuses(t, s, "w.W", text, strings.Index(text, `"x17"`), api.ErrJsonOneof)
	// Beside one another they do not count.
	reads(t, s, "w.W", `{"r17":[`+strings.Repeat(`{},`, 100)+`{}]}`, one(repeated+17, list(slices.Repeat([]api.Value{msg()}, 101)...)))
}

func TestDepthPrinted(t *testing.T) { // P1205: 64 messages in one another
	s := wideSchema()
	for _, c := range []struct {
		ahead, behind string
		in            func(v api.Value) api.Value
	}{
		{`{"s17":`, `}`, func(v api.Value) api.Value { return one(17, v) }},
		{`{"r17":[`, `]}`, func(v api.Value) api.Value { return one(repeated+17, list(v)) }},
		{`{"m17":{"":`, `}}`, func(v api.Value) api.Value { return one(mapped+17, dict(kv("", v))) }},
	} {
		v := msg()
		for range 63 {
			v = c.in(v)
		}
		prints(t, s, "w.W", v, strings.Repeat(c.ahead, 63)+`{}`+strings.Repeat(c.behind, 63))
		printRefuses(t, s, "w.W", c.in(v), api.ErrDepth)
	}
}

func TestSizes(t *testing.T) { // P1206: trees of MaxMessage canonical bytes and of one more, behind all other faults
	s := wideSchema()
	const most = api.MaxMessage
	x := strings.Repeat("x", most)
	for _, c := range []struct {
		fits, large string
		v           api.Value
	}{
		{`{"s14":"` + x[:most-4] + `"}`, `{"s14":"` + x[:most-3] + `"}`, one(14, text(x[:most-4]))},
		{`{"s14":"\u0001` + x[:most-5] + `"}`, `{"s14":"\u00e9` + x[:most-5] + `"}`, one(14, text("\x01"+x[:most-5]))},
		{`{"s15":"` + strings.Repeat("AAAA", 349524) + `"}`, `{"s15":"` + strings.Repeat("AAAA", 349525) + `"}`, one(15, text(strings.Repeat("\x00", 3*349524)))},
	} {
		if n, _, e := tree.Size(s, "w.W", c.v); e != api.OK || n < most-3 {
			t.Fatalf("Size(%s) = %d, %v", short(c.v), n, e)
		}
		reads(t, s, "w.W", c.fits, c.v)
		refuses(t, s, "w.W", c.large, 0, api.ErrSize)
		refusesOnce(t, s, "w.W", ` `+c.large, 0, api.ErrSize)
		open := strings.TrimSuffix(c.large, "}")
		refusesOnce(t, s, "w.W", open+`,"nope":1}`, len(open)+1, api.ErrMember)
		refusesOnce(t, s, "w.W", open+`,"s3": null,"s_4":true}`, len(open)+18, api.ErrShape)
	}
	// As many values as there may be: all but four bytes are one each.
	bools := load(t, `syntax = "proto3"; message M { repeated bool b = 1; }`)
	row := `{"b":[` + strings.Repeat("true,", most-5)
	reads(t, bools, "M", row+`true]}`, one(1, list(slices.Repeat([]api.Value{num(1)}, most-4)...)))
	refuses(t, bools, "M", row+`true,true]}`, 0, api.ErrSize)
	// Many small ones: the last one is too many.
	many := strings.Repeat(`{},`, (most-1)/3)
	reads(t, s, "w.W", `{"r17":[`+strings.TrimSuffix(many, ",")+`]}`, one(repeated+17, list(slices.Repeat([]api.Value{msg()}, (most-1)/3)...)))
	refuses(t, s, "w.W", `{"r17":[`+many+`{}]}`, 0, api.ErrSize)
}

// refusesOnce looks whether Parse refuses a long text, and at nothing else.
func refusesOnce(t *testing.T, s *bind.Schema, name, text string, place int, want api.Errno) {
	t.Helper()
	if v, bad := json.New(s).Parse(name, text); bad != (api.Fault{Err: want, At: place}) || !same(v, api.Value{}) {
		t.Errorf("P1206: Parse(%q, %s) = %s, %+v, want %v at %d", name, some(text), short(v), bad, want, place)
	}
}

func TestManyValues(t *testing.T) { // P1206: texts with more values than a tree may have, right ones and wrong ones
	s := smallSchema()
	zeros := `{"d":{"":{"c":[` + strings.Repeat(`0,`, api.MaxValues+1000)
	refusesOnce(t, s, "p.M", zeros+`0]}}}`, 0, api.ErrSize)
	refusesOnce(t, s, "p.M", zeros+`null]}}}`, len(zeros), api.ErrShape)
	refusesOnce(t, s, "p.M", zeros+`0],"c":null}}}`, len(zeros)+3, api.ErrMember)
	var keys strings.Builder
	for i := range 1<<20 + 10 {
		fmt.Fprintf(&keys, `"%x":{},`, i)
	}
	refusesOnce(t, s, "p.M", `{"d":{`+keys.String()+`"":{}}}`, 0, api.ErrSize)
	refusesOnce(t, s, "p.M", `{"d":{`+keys.String()+`"100009":{}}}`, 6+keys.Len(), api.ErrMember)
	fields := strings.Repeat(`{"a":1,"b":"x","e":true},`, 400000) // members count too
	s = load(t, `syntax = "proto3"; message M { repeated N n = 1; } message N { int32 a = 1; string b = 2; bool e = 3; }`)
	refusesOnce(t, s, "M", `{"n":[`+fields+`{}]}`, 0, api.ErrSize)
	refusesOnce(t, s, "M", `{"n":[`+fields+`{"a":1,"a":1}]}`, 6+len(fields)+7, api.ErrMember)
}

func TestLongPrints(t *testing.T) { // P1205: texts of MaxJson bytes and of one more
	name := strings.Repeat("N", 250)
	s := load(t, `syntax = "proto3"; enum E { Z = 0; `+name+` = 1; } message M { repeated E e = 1; string s = 2; repeated M m = 3; bytes b = 4; }`)
	each := len(name) + 3
	ahead, behind := `{"e":[`, `],"s":"`
	n := (api.MaxJson - len(ahead) - len(behind)) / each
	row := strings.TrimSuffix(strings.Repeat(`"`+name+`",`, n), ",")
	left := api.MaxJson - len(ahead) - len(row) - len(behind) - 2
	e := list(slices.Repeat([]api.Value{num(1)}, n)...)
	pad := strings.Repeat("s", left)
	prints(t, s, "M", msg(at(1, e), at(2, text(pad))), ahead+row+behind+pad+`"}`)
	printRefuses(t, s, "M", msg(at(1, e), at(2, text(pad+"s"))), api.ErrSize)
	printRefuses(t, s, "M", msg(at(1, e), at(2, text(pad[1:]+"\n"))), api.ErrSize)
	printRefuses(t, s, "M", msg(at(1, e), at(2, text(pad)), at(4, text("b"))), api.ErrSize)
	printRefuses(t, s, "M", msg(at(1, e), at(2, text(pad)), at(3, list(msg()))), api.ErrSize)
	printRefuses(t, s, "M", one(1, list(slices.Repeat([]api.Value{num(1)}, 1<<20-5)...)), api.ErrSize)
	// What is read from a short text may be too long to be printed.
	v, bad := json.New(s).Parse("M", `{"e":[`+strings.Repeat("1,", n)+`1,0]}`)
	if want := one(1, list(append(slices.Repeat([]api.Value{num(1)}, n+1), num(0))...)); bad != (api.Fault{}) || !same(v, want) {
		t.Errorf("P1206: a list of %d values is read as %s, %+v", n+2, short(v), bad)
	}
	printRefuses(t, s, "M", v, api.ErrSize)
	// The text of a tree of many bytes need not be long.
	long := text(strings.Repeat("x", 1<<20-4))
	prints(t, s, "M", one(2, long), `{"s":"`+long.Text+`"}`)
}
