package path_test

import (
	"fmt"
	"math"
	"strings"
	"testing"

	"sigil/api"
)

func TestLeavesOfTypes(t *testing.T) { // P1313: leaves of every type and card, zeros too
	s := wideSchema()
	for typ := api.TDouble; typ < api.TMessage; typ++ {
		zero, some := zeroOf(typ), someOf(typ)
		of := func(form string) string { return fmt.Sprintf(form, typ) }
		m := msg(at(single+typ, some), at(optional+typ, zero), at(repeated+typ, list(zero, some, zero)), at(mapped+typ, dict(kv("", some), kv("a", zero))), at(member+typ, zero))
		tells(t, s, "w.W", m, of("s_%d"), of("o_%d"), of("r_%d[0]"), of("r_%d[1]"), of("r_%d[2]"), of(`m_%d[""]`), of(`m_%d["a"]`), of("x_%d"))
	}
	m := msg(at(17, msg()), at(optional+17, msg()), at(repeated+17, list(msg(), one(3, num(1)), msg())), at(mapped+17, dict(kv("", msg()), kv("a", one(17, msg())))), at(member+17, one(repeated+17, list(msg()))))
	tells(t, s, "w.W", m, "s_17", "o_17", "r_17[0]", "r_17[1].s_3", "r_17[2]", `m_17[""]`, `m_17["a"].s_17`, "x_17.r_17[0]")
	tells(t, s, "w.W", msg(), "")
	tells(t, s, "w.V", msg(), "")
	tells(t, s, "w.W", one(blank, text("x")), "__")
	tells(t, s, "w.W", one(digit, num(1)), "_1")
	tells(t, s, "w.W", one(yes, list(num(0))), "true[0]")
	tells(t, s, "w.W", one(far, num(1)), "far")
}

func TestLeavesOfKeys(t *testing.T) { // P1313: keys of every type, as Print writes them, in the order of the tree
	s := wideSchema()
	pairs := func(l ...int) api.Value {
		v := dict()
		for _, n := range l {
			v.List = append(v.List, pair(num(n), num(0)))
		}
		return v
	}
	for _, typ := range keyTypes {
		name := fmt.Sprintf("k_%d", typ)
		var v api.Value
		var want []string
		switch typ {
		case api.TBool:
			v, want = pairs(0, 1), []string{"[false]", "[true]"}
		case api.TString:
			for _, k := range []string{"", "\x00", "\"", "A", "\\", "]", "a.b", "é", "\U0010ffff"} {
				v.List = append(v.List, kv(k, num(0)))
			}
			v.Kind = api.VMap
			want = []string{`[""]`, `["\000"]`, `["\""]`, `["A"]`, `["\\"]`, `["]"]`, `["a.b"]`, `["é"]`, "[\"\U0010ffff\"]"}
		case api.TInt32, api.TSint32, api.TSfixed32:
			v, want = pairs(math.MinInt32, -10, -9, 0, 9, 10, math.MaxInt32), []string{"[-2147483648]", "[-10]", "[-9]", "[0]", "[9]", "[10]", "[2147483647]"}
		case api.TInt64, api.TSint64, api.TSfixed64:
			v, want = pairs(math.MinInt, -1, 0, math.MaxInt), []string{"[-9223372036854775808]", "[-1]", "[0]", "[9223372036854775807]"}
		case api.TUint32, api.TFixed32:
			v, want = pairs(0, 9, 10, math.MaxUint32), []string{"[0]", "[9]", "[10]", "[4294967295]"}
		default:
			v, want = pairs(0, math.MaxInt, math.MinInt, -1), []string{"[0]", "[9223372036854775807]", "[9223372036854775808]", "[18446744073709551615]"}
		}
		for i := range want {
			want[i] = name + want[i]
		}
		tells(t, s, "w.W", one(keyed+typ, v), want...)
	}
}

func TestLeavesDeep(t *testing.T) { // P1313: leaves in lists and maps in one another
	s := wideSchema()
	v := msg(at(1, num(-1)), at(3, list(one(2, dict(pair(num(0), one(5, text(""))), pair(num(1), one(3, one(2, one(3, num(1))))))), one(4, text("")))))
	m := msg(at(api.TString, text("x")), at(ofV, v), at(listV, list(msg(), v)), at(mapV, dict(pair(num(5), v), pair(num(-1), msg()))))
	ends := []string{"a", "u[0].u[false].b", "u[0].u[true].v.w.s_3", "u[1].s"}
	want := []string{"s_14"}
	for _, ahead := range []string{"of_v.", "list_v[0]", "list_v[1].", "map_v[5].", "map_v[18446744073709551615]"} {
		if !strings.HasSuffix(ahead, ".") {
			want = append(want, ahead)
			continue
		}
		for _, end := range ends {
			want = append(want, ahead+end)
		}
	}
	tells(t, s, "w.W", m, want...)
}

func TestLongLeaves(t *testing.T) { // P1313: paths of MaxPath bytes and of one more, wherever they stand
	s := smallSchema()
	k := func(n int) string { return strings.Repeat("k", n) }
	most := api.MaxPath - len(`d[""]`)
	tells(t, s, "p.M", one(4, dict(kv(k(most), msg()))), `d["`+k(most)+`"]`)
	leavesRefuse(t, s, "p.M", one(4, dict(kv(k(most+1), msg()))), api.ErrLong)
	tells(t, s, "p.M", one(4, dict(kv(k(most-2), one(1, num(1))))), `d["`+k(most-2)+`"].a`)
	leavesRefuse(t, s, "p.M", one(4, dict(kv(k(most-1), one(1, num(1))))), api.ErrLong)
	tells(t, s, "p.M", one(4, dict(kv(k(most-5), one(3, list(num(1)))))), `d["`+k(most-5)+`"].c[0]`)
	leavesRefuse(t, s, "p.M", one(4, dict(kv(k(most-4), one(3, list(num(1)))))), api.ErrLong)
	tens := make([]api.Value, 11)
	for i := range tens {
		tens[i] = num(i)
	}
	leavesRefuse(t, s, "p.M", one(4, dict(kv(k(most-5), one(3, list(tens...))))), api.ErrLong) // only c[10] is too long
	var want []string
	for i := range tens {
		want = append(want, fmt.Sprintf(`d["%s"].c[%d]`, k(most-6), i))
	}
	tells(t, s, "p.M", one(4, dict(kv(k(most-6), one(3, list(tens...))))), want...)
	// Bytes that are written as escapes count as such.
	tells(t, s, "p.M", one(4, dict(kv(strings.Repeat("\x01", most/4)+k(most%4), msg()))), `d["`+strings.Repeat(`\001`, most/4)+k(most%4)+`"]`)
	leavesRefuse(t, s, "p.M", one(4, dict(kv(strings.Repeat("\x01", most/4)+k(most%4+1), msg()))), api.ErrLong)
	leavesRefuse(t, s, "p.M", one(4, dict(kv(strings.Repeat("\x01", 1<<24), msg()))), api.ErrLong)
	// The first, one between, the last.
	long := kv(k(most+1), msg())
	for _, l := range [][]api.Value{{kv("", msg()), long, kv("z", msg())}, {long, kv("z", msg())}, {kv("", msg()), long}} {
		leavesRefuse(t, s, "p.M", one(4, dict(l...)), api.ErrLong)
		leavesRefuse(t, s, "p.M", msg(at(1, num(1)), at(4, dict(l...)), at(5, num(0))), api.ErrLong)
	}
	leavesRefuse(t, s, "p.M", one(7, one(4, dict(kv(k(most-1), msg())))), api.ErrLong)
	tells(t, s, "p.M", one(7, one(4, dict(kv(k(most-2), msg())))), `g.d["`+k(most-2)+`"]`)
	gets(t, s, "p.M", one(4, dict(kv(k(most), one(1, num(1))))), `d["`+k(most)+`"]`, one(1, num(1))) // Get and the others don't mind what lies below
	strips(t, s, "p.M", one(4, dict(kv(k(2000), one(1, num(1))))), one(4, dict(kv(k(2000), msg()))), "d.a")
}
