package json_test

import (
	"strings"
	"testing"

	"sigil/api"
	"sigil/json"
)

func TestExamplesOfPrint(t *testing.T) { // P1205: the chapter's examples 1 and 2
	s := smallSchema()
	prints(t, s, "p.M", msg(), `{}`)
	prints(t, s, "p.M", msg(at(1, num(-1)), at(2, text("a\"\n\x01é")), at(3, list(num(1), num(-2)))), `{"a":-1,"b":"a\"\n\u0001é","c":[1,-2]}`)
	prints(t, s, "p.M", msg(at(4, dict(kv("", msg()))), at(5, num(0)), at(7, one(6, num(1)))), `{"d":{"":{}},"e":false,"g":{"f":1}}`)
	prints(t, s, "p.X", msg(at(1, num(-1)), at(2, text("\x00\xff")), at(3, num(1)), at(4, num(4607182418800017408)), at(5, dict(pair(num(-3), num(1))))), `{"uL":"18446744073709551615","y":"AP8=","e":"ONE","d":"3ff0000000000000","k":{"-3":true}}`)
	prints(t, s, "p.X", one(3, num(7)), `{"e":7}`)
}

func TestExamplesOfParse(t *testing.T) { // P1206: the chapter's examples 3 to 5
	s := smallSchema()
	reads(t, s, "p.M", ` { "a" : "150" , "b":null,"c" : [ ] }`, one(1, num(150)))
	reads(t, s, "p.X", `{"u_l":7,"e":0}`, one(1, num(7)))
	faulty(t, ``, 0, api.ErrJson)
	faulty(t, `{"a":1,}`, 7, api.ErrJson)
	faulty(t, `{"a":01}`, 6, api.ErrJson)
	refuses(t, s, "p.M", `{"a":1.0}`, 5, api.ErrJsonNumber)
	refuses(t, s, "p.M", `{"a":2147483648}`, 5, api.ErrJsonNumber)
	refuses(t, s, "p.M", `{"a":true}`, 5, api.ErrShape)
	refuses(t, s, "p.M", `{"x":1}`, 1, api.ErrMember)
	refuses(t, s, "p.M", `{"a":1,"a":null}`, 7, api.ErrMember)
	refuses(t, s, "p.M", `{"f":1,"g":{}}`, 7, api.ErrJsonOneof)
	reads(t, s, "p.M", `{"f":null,"g":{}}`, one(7, msg()))
	refuses(t, s, "p.M", `[]`, 0, api.ErrShape)
	faulty(t, `{"b":"\ud800"}`, 5, api.ErrJsonText)
	faulty(t, `{"x":"\q"}`, 5, api.ErrJsonText)
	refuses(t, s, "p.M", `{"c":[null]}`, 6, api.ErrShape)

	refuses(t, s, "p.X", `{"u_l":1,"uL":2}`, 9, api.ErrMember)
	refuses(t, s, "p.X", `{"y":"AP8"}`, 5, api.ErrBase64)
	refuses(t, s, "p.X", `{"e":"TWO"}`, 5, api.ErrJsonEnum)
	refuses(t, s, "p.X", `{"d":1}`, 5, api.ErrShape)
	refuses(t, s, "p.X", `{"d":"3FF0000000000000"}`, 5, api.ErrJsonNumber)
	refuses(t, s, "p.X", `{"k":{"1":true,"1":false}}`, 15, api.ErrMember)
	refuses(t, s, "p.X", `{"k":{"01":true}}`, 6, api.ErrJsonNumber)
}

func TestExamplesOfCompact(t *testing.T) { // P1202, P1203: the chapter's example 6
	compacts(t, ` [ 1 , {"a" : null } ] `, `[1,{"a":null}]`)
	faulty(t, `nul`, 0, api.ErrJson)
	faulty(t, `1 2`, 2, api.ErrJson)
	faulty(t, `-`, 0, api.ErrJson)
	faulty(t, `1.e`, 1, api.ErrJson)
	faulty(t, `{1:2}`, 1, api.ErrJson)
	faulty(t, strings.Repeat("[", 201), 200, api.ErrDepth)
}

func TestOfTheWhole(t *testing.T) { // P1205, P1206: the trees of the document's ten examples
	s := smallSchema()
	for _, c := range []struct {
		v    api.Value
		want string
	}{
		{one(1, num(150)), `{"a":150}`}, {one(2, text("hi")), `{"b":"hi"}`}, {one(3, list(num(1), num(-1))), `{"c":[1,-1]}`}, {one(5, num(0)), `{"e":false}`},
		{one(4, dict(kv("", msg()))), `{"d":{"":{}}}`}, {one(6, num(1)), `{"f":1}`}, {one(7, msg()), `{"g":{}}`},
	} {
		prints(t, s, "p.M", c.v, c.want)
		reads(t, s, "p.M", c.want, c.v)
	}
	printRefuses(t, s, "p.M", one(1, num(0)), api.ErrNormal)
	if q, e := json.Quote("a"); q != `"a"` || e != api.OK {
		t.Errorf("P1204: Quote(a) = %s, %v", q, e)
	}
}
