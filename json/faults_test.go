package json_test

import (
	"fmt"
	"strings"
	"testing"

	"sigil/api"
	"sigil/json"
)

// flaw is a member of a message of w.W that has one fault: the mark shows where.
type flaw struct {
	text string
	err  api.Errno
}

// flaws are faults of P1206, one in each member. Each has fields of its own, so that any two may stand in one object.
func flaws() []flaw {
	return []flaw{
		{`^"nope":1`, api.ErrMember}, {`^"s_33":{"a":[1,2]}`, api.ErrMember}, {`"s1":null,^"s_1":null`, api.ErrMember}, {`"s3":1,^"s3":1`, api.ErrMember},
		{`"s4":^true`, api.ErrShape}, {`"s5":^"01"`, api.ErrJsonNumber}, {`"s6":^-1`, api.ErrJsonNumber}, {`"s7":^1.0`, api.ErrJsonNumber},
		{`"s13":^"true"`, api.ErrShape}, {`"s14":^1`, api.ErrShape}, {`"s15":^[]`, api.ErrShape}, {`"o15":^"A"`, api.ErrBase64},
		{`"s16":^"nope"`, api.ErrJsonEnum}, {`"o16":^1e5`, api.ErrJsonNumber}, {`"r16":^{}`, api.ErrShape}, {`"r3":[1,^null]`, api.ErrShape},
		{`"r1":["0000000000000000",^"1"]`, api.ErrJsonNumber}, {`"r14":["a",^["b"]]`, api.ErrShape}, {`"m3":^[]`, api.ErrShape}, {`"m4":{"a":1,^"a":1}`, api.ErrMember},
		{`"m5":{"a":^null}`, api.ErrShape}, {`"k3":{^"x":1}`, api.ErrJsonNumber}, {`"k13":{^"x":1}`, api.ErrShape}, {`"k6":{"1":1,^"1":[]}`, api.ErrMember},
		{`"s17":^[]`, api.ErrShape}, {`"o17":{^"nope":{}}`, api.ErrMember}, {`"r17":[{},{"s3":^{}}]`, api.ErrShape}, {`"m17":{"a":{},"b":{"q0":true,^"q1":0}}`, api.ErrJsonOneof},
		{`"x3":1,^"x4":1`, api.ErrJsonOneof}, {`"q0":true,^"q1":[]`, api.ErrJsonOneof}, {`"ofV":{"u":[{"u":{^"1":{}}}]}`, api.ErrShape}, {`"mapV":{^"-1":{}}`, api.ErrJsonNumber},
	}
}

// holders are ways to let members stand in a message of w.W within others.
var holders = []struct{ ahead, behind string }{
	{`{`, `}`}, {` { "far" : 1 , `, ` , "tail":"x" } `}, {`{"r_17":[{},{`, `},{"nope":1}],"nope":2}`}, {`{"m_17":{"":{"o_17":{`, `}},"nope":1}}`}, {`{"x17":{"s_17":{`, `}}}`}, {`{"listV":[{"w":{`, `}},1]}`},
}

func TestEachFault(t *testing.T) { // P1206: each fault alone, at its place, in every kind of message within messages
	s := wideSchema()
	for _, f := range flaws() {
		member, place := marked(f.text)
		for _, h := range holders {
			refuses(t, s, "w.W", h.ahead+member+h.behind, len(h.ahead)+place, f.err)
		}
	}
}

func TestTwoFaults(t *testing.T) { // P1206: every two faults: the first from the left is told
	s := wideSchema()
	for i, f := range flaws() {
		for k, g := range flaws() {
			if i == k {
				continue
			}
			first, place := marked(f.text)
			second, _ := marked(g.text)
			h := holders[(i+k)%len(holders)]
			refuses(t, s, "w.W", h.ahead+first+`,`+second+h.behind, len(h.ahead)+place, f.err)
			refuses(t, s, "w.W", `{"r17":[{`+first+`},{`+second+`}]}`, 9+place, f.err)
			refuses(t, s, "w.W", `{"m17":{"b":{`+first+`},"a":{`+second+`}}}`, 13+place, f.err)
		}
	}
}

func TestFaultsOfTheText(t *testing.T) { // P1206: the faults of all of the text go ahead of what is wrong with its values, wherever they stand
	for _, f := range flaws() {
		member, _ := marked(f.text)
		for _, bad := range []flaw{
			{`^`, api.ErrJson}, {`"tail":^"\q"}`, api.ErrJsonText}, {`"tail":"x"^;}`, api.ErrJson}, {`"tail"^}`, api.ErrJson}, {`"tail":[1,^]}`, api.ErrJson}, {`"tail":1}^}`, api.ErrJson}, {`"tail":1} ^x`, api.ErrJson}, {`"tail":"^` + "\xff" + `"}`, api.ErrJsonText}, {`^"nope}`, api.ErrJsonText},
			{`"tail":` + strings.Repeat("[", 199) + `^[`, api.ErrDepth}, {`"tail":` + strings.Repeat("[", 199) + `^,`, api.ErrJson},
		} {
			end, place := marked(bad.text)
			ahead := `{` + member + `, `
			c := json.New(wideSchema())
			if v, fault := c.Parse("w.W", ahead+end); fault != (api.Fault{Err: bad.err, At: len(ahead) + place}) || !same(v, api.Value{}) {
				t.Errorf("P1206: Parse(%s) = %s, %+v, want %v at %d", some(ahead+end), short(v), fault, bad.err, len(ahead)+place)
			}
		}
	}
}

func TestOrderWithinMembers(t *testing.T) { // P1206: of one member its name, whether it was there, null, the oneof, the value, in this order
	s := wideSchema()
	for _, c := range []flaw{
		{`{"x3":1,^"nope":[]}`, api.ErrMember}, {`{"x3":1,"x4":null,^"x4":true}`, api.ErrMember}, {`{"x3":1,^"x3":null}`, api.ErrMember}, {`{"x3":1,^"x_4":[]}`, api.ErrJsonOneof}, {`{"x3":1,"x4":null,"x5":null,^"x6":[1]}`, api.ErrJsonOneof},
		{`{"x3":^[],"x4":1}`, api.ErrShape}, {`{"s3":^[],"nope":1}`, api.ErrShape}, {`{"k3":{^"x":[],"x":1}}`, api.ErrJsonNumber}, {`{"k3":{"1":^[],"1":1}}`, api.ErrShape}, {`{"k3":{"1":1,^"1":[],"x":1}}`, api.ErrMember}, {`{"m17":{"a":{},^"a":{"nope":1}}}`, api.ErrMember},
		{`{"r17":[{"s3":1,^"s3":1},[]]}`, api.ErrMember}, {`{"r17":[^[],{"nope":1}]}`, api.ErrShape}, {`{"r17":[{},{^"nope":1}],"nope":1}`, api.ErrMember}, {`{"s17":{"s17":{"s17":^1}},"nope":1}`, api.ErrShape},
	} {
		text, place := marked(c.text)
		refuses(t, s, "w.W", text, place, c.err)
	}
}

func TestPlacesBehindBlanks(t *testing.T) { // P1206: a place is that of the first byte of the value or the name, whatever blanks are ahead
	s := wideSchema()
	for _, blank := range []string{" ", "\t\n", "\r\n  ", strings.Repeat(" ", 1000)} {
		for _, f := range flaws() {
			member, place := marked(f.text)
			// Blanks ahead of the member alone, and around all its signs.
			refuses(t, s, "w.W", `{`+blank+member+`}`, 1+len(blank)+place, f.err)
			ahead, behind := member[:place], member[place:]
			spread := strings.NewReplacer(":", blank+":"+blank, ",", blank+","+blank, "[", blank+"["+blank, "{", blank+"{"+blank)
			first := spread.Replace(ahead)
			if len(behind) > 0 && strings.IndexByte("[{", behind[0]) >= 0 {
				behind = behind[:1] + spread.Replace(behind[1:])
			} else {
				behind = spread.Replace(behind)
			}
			refuses(t, s, "w.W", `{`+first+behind+`}`, 1+len(first), f.err)
		}
	}
	for _, top := range []string{"[]", "1", `"x"`, "null", "true", "[{}]"} {
		refuses(t, s, "w.W", top, 0, api.ErrShape)
		refuses(t, s, "w.W", " \n"+top+" ", 2, api.ErrShape)
	}
}

func TestSmallMembers(t *testing.T) { // P1206: all small rows of telling members, against the second reading
	s := smallSchema()
	members := []string{`"a":1`, `"a":null`, `"a":"x"`, `"b":"é"`, `"b":2`, `"c":[1,0]`, `"c":[]`, `"d":{"":{}}`, `"e":false`, `"f":0`, `"f":null`, `"g":{}`, `"g":{"f":1,"g":null}`, `"g":[]`, `"x":1`}
	for _, a := range members {
		for _, b := range members {
			for _, c := range members {
				agrees(t, s, "p.M", fmt.Sprintf(`{%s, %s ,%s}`, a, b, c))
				agrees(t, s, "p.M", fmt.Sprintf(`{"d":{"k":{%s},"":{%s},"\u006b":{%s}}}`, a, b, c))
				agrees(t, s, "p.M", fmt.Sprintf(`{"g":{%s,"g":{%s}},%s}`, a, b, c))
			}
		}
	}
}
