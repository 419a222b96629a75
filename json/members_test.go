package json_test

import (
	"fmt"
	"strings"
	"testing"

	"sigil/api"
)

func TestNames(t *testing.T) { // P1206: names of fields as declared and as JSON names, and what is neither
	s := load(t, `syntax = "proto3"; message M { int32 a_b = 1; int32 _c = 2; int32 d__1 = 3; int32 E = 4; int32 f_ = 5; int32 __ = 6; int32 g_h_i = 7; int32 `+strings.Repeat("n", 255)+` = 8; int32 null = 9; }`)
	names := map[int][2]string{1: {"a_b", "aB"}, 2: {"_c", "C"}, 3: {"d__1", "d1"}, 4: {"E", "E"}, 5: {"f_", "f"}, 6: {"__", ""}, 7: {"g_h_i", "gHI"}, 8: {strings.Repeat("n", 255), strings.Repeat("n", 255)}, 9: {"null", "null"}}
	for number, both := range names {
		prints(t, s, "M", one(number, num(5)), `{"`+both[1]+`":5}`)
		for _, name := range both {
			reads(t, s, "M", `{"`+name+`":5}`, one(number, num(5)))
			reads(t, s, "M", `{ "`+escaped(text(name), "")+`" : 5 }`, one(number, num(5)))
			reads(t, s, "M", `{"`+name+`":null}`, msg())
			for _, again := range both {
				for _, values := range [][2]string{{"5", "5"}, {"null", "5"}, {"5", "null"}, {"null", "null"}, {"0", "true"}} {
					ahead := `{"` + name + `":` + values[0] + `, `
					refuses(t, s, "M", ahead+`"`+again+`":`+values[1]+`}`, len(ahead), api.ErrMember)
				}
			}
		}
	}
	for _, name := range []string{"a", "ab", "AB", "a_B", "a__b", "A_b", "c", "_C", "d_1", "e", "F", "_", "___", "gHi", "g_hI", "M", "1", " E", "E ", strings.Repeat("n", 254), strings.Repeat("n", 256), strings.Repeat("n", 70000), "true", "é", `\u0000`, `E\u0000`} {
		refuses(t, s, "M", `{"`+name+`":5}`, 1, api.ErrMember)
		refuses(t, s, "M", `{"E":1, "`+name+`":null}`, 8, api.ErrMember)
	}
}

func TestOrderOfMembers(t *testing.T) { // P1205, P1206, P1208: written by rising number, read in any order
	s := load(t, `syntax = "proto3"; message M { int32 z = 1; int32 b = 20; int32 a = 3; int32 y = 536870911; int32 c = 15; }`)
	want := msg(at(1, num(1)), at(3, num(3)), at(15, num(15)), at(20, num(20)), at(far, num(9)))
	prints(t, s, "M", want, `{"z":1,"a":3,"c":15,"b":20,"y":9}`)
	members := []string{`"z":1`, `"a":3`, `"c":15`, `"b":20`, `"y":9`}
	orders(members, func(l []string) { reads(t, s, "M", `{`+strings.Join(l, ",")+`}`, want) })
}

// orders calls with all orders of a list.
func orders(l []string, each func(l []string)) {
	var grow func(i int)
	grow = func(i int) {
		if i == len(l) {
			each(l)
		}
		for k := i; k < len(l); k++ {
			l[i], l[k] = l[k], l[i]
			grow(i + 1)
			l[i], l[k] = l[k], l[i]
		}
	}
	grow(0)
}

func TestNulls(t *testing.T) { // P1206: null as a member of every field: the field is not there, and may not be there again
	s := wideSchema()
	for _, name := range s.Messages() {
		m, _ := s.Message(name)
		var all []string
		for _, f := range m.Fields {
			reads(t, s, name, `{"`+f.Name+`":null}`, msg())
			reads(t, s, name, `{"`+f.Json+`" : null }`, msg())
			again := `{"` + f.Json + `":null,`
			refuses(t, s, name, again+`"`+f.Name+`":null}`, len(again), api.ErrMember)
			all = append(all, `"`+f.Name+`":null`)
		}
		reads(t, s, name, `{`+strings.Join(all, ",")+`}`, msg())
	}
	for _, ahead := range []string{`{"of_v":{"a":1,"w":null,"u":null}}`} {
		reads(t, s, "w.W", ahead, one(ofV, one(1, num(1))))
	}
	for _, wrong := range []string{`null`, ` null`} {
		refuses(t, s, "w.W", wrong, strings.Index(wrong, "n"), api.ErrShape) // the whole text is no member
	}
}

func TestZeros(t *testing.T) { // P1206: implicit zeros, empty lists and maps are not there; explicit zeros are
	s := wideSchema()
	for typ := api.TDouble; typ < api.TMessage; typ++ {
		zero := ofType(typ).told[0]
		reads(t, s, "w.W", fmt.Sprintf(`{"s%d":%s,"tail":""}`, typ, zero.text), msg())
		reads(t, s, "w.W", fmt.Sprintf(`{"o%d":%s,"s%d":%s}`, typ, zero.text, typ, zero.text), one(optional+typ, zero.v))
		reads(t, s, "w.W", fmt.Sprintf(`{"x%d":%s}`, typ, zero.text), one(member+typ, zero.v))
		reads(t, s, "w.W", fmt.Sprintf(`{"r%d":[%s]}`, typ, zero.text), one(repeated+typ, list(zero.v)))
		reads(t, s, "w.W", fmt.Sprintf(`{"m%d":{"":%s}}`, typ, zero.text), one(mapped+typ, dict(kv("", zero.v))))
		printRefuses(t, s, "w.W", one(single+typ, zero.v), api.ErrNormal)
	}
	reads(t, s, "w.W", `{"s17":{"s3":0,"r3":[],"m3":{},"o17":{}}}`, one(17, one(optional+17, msg())))
	reads(t, s, "w.W", `{"s1":"8000000000000000","s2":"80000000"}`, msg(at(1, num(-1<<63)), at(2, num(1<<31)))) // -0 is no zero
}

func TestOneofs(t *testing.T) { // P1206: members of a oneof one behind the other, null and not
	s := wideSchema()
	for a := api.TDouble; a <= api.TMessage; a++ {
		for b := api.TDouble; b <= api.TMessage; b++ {
			for i := range 2 { // with a zero, and with another value
				x, y := ofType(a).told[i], ofType(b).told[i]
				ahead := fmt.Sprintf(`{"x%d":%s,`, a, x.text)
				second := fmt.Sprintf(`"x_%d":%s}`, b, y.text)
				if a == b {
					refuses(t, s, "w.W", ahead+second, len(ahead), api.ErrMember)
					continue
				}
				refuses(t, s, "w.W", ahead+second, len(ahead), api.ErrJsonOneof)
				refuses(t, s, "w.W", ahead+fmt.Sprintf(` "x%d":[[]]}`, b), len(ahead)+1, api.ErrJsonOneof) // ahead of what is wrong with the value
				between := ahead + `"tail":"x","q0":true,`
				refuses(t, s, "w.W", between+second, len(between), api.ErrJsonOneof)
				reads(t, s, "w.W", fmt.Sprintf(`{"x%d":null,`, a)+second, one(member+b, y.v))
				reads(t, s, "w.W", ahead+fmt.Sprintf(`"x%d":null}`, b), one(member+a, x.v))
				reads(t, s, "w.W", fmt.Sprintf(`{"x%d":null,"x%d":null}`, a, b), msg())
				reads(t, s, "w.W", ahead+`"q1":"0"}`, msg(at(member+a, x.v), at(other+1, num(0)))) // another oneof
			}
		}
	}
	refuses(t, s, "w.W", `{"x3":1,"x4":null,"x5":1}`, 18, api.ErrJsonOneof)
	refuses(t, s, "w.W", `{"x3":null,"x4":1,"x3":1}`, 18, api.ErrMember)
	reads(t, s, "w.W", `{"x17":{"x17":{"x3":0}},"r17":[{"x3":1},{"x4":1}],"q0":false}`, msg(at(repeated+17, list(one(member+3, num(1)), one(member+4, num(1)))), at(member+17, one(member+17, one(member+3, num(0)))), at(other, num(0))))
}
