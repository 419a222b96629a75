package json_test

import (
	stdbase64 "encoding/base64"
	stdjson "encoding/json"
	"fmt"
	"math/big"
	"regexp"
	"slices"
	"strconv"
	"strings"
	"testing"
	"unicode/utf8"

	"sigil/api"
	"sigil/bind"
	"sigil/encode"
	"sigil/json"
	"sigil/tree"
)

// oneToken is a token in front of a text, as P1201 tells it.
var oneToken = regexp.MustCompile(`^(?:[{}\[\]:,]|true|false|null|-?(?:0|[1-9][0-9]*)(?:\.[0-9]+)?(?:[eE][+-]?[0-9]+)?|"(?:[^"\\\x00-\x1f]|\\["\\/bfnrt]|\\u(?:[0-9a-cA-CefEF][0-9a-fA-F]{3}|[dD][0-7][0-9a-fA-F]{2}|[dD][89abAB][0-9a-fA-F]{2}\\u[dD][c-fC-F][0-9a-fA-F]{2}))*")`)

// integerText is what is called so.
var integerText = regexp.MustCompile(`^(?:0|-?[1-9][0-9]*)$`)

// piece is a token and where it stands.
type piece struct {
	text string
	at   int
}

// looked is a second reading of P1201 and P1202: it goes by what may stand next, with a list of what is open. It tells the tokens and the first fault.
func looked(s string) ([]piece, api.Fault) {
	if len(s) > 1<<26 {
		return nil, api.Fault{Err: api.ErrLong}
	}
	for i, c := range s {
		if c == utf8.RuneError && !strings.HasPrefix(s[i:], "\uFFFD") {
			return nil, api.Fault{Err: api.ErrJsonText, At: i}
		}
	}
	const value = `{["0w`
	var l []piece
	open, next := "", value
	for i := 0; ; {
		for i < len(s) && strings.Contains(" \t\n\r", s[i:i+1]) {
			i++
		}
		switch {
		case i == len(s) && next == "":
			return l, api.Fault{}
		case i == len(s):
			return nil, api.Fault{Err: api.ErrJson, At: i}
		}
		class := s[i : i+1]
		switch {
		case strings.Contains("-0123456789", class):
			class = "0"
		case strings.Contains("tfn", class):
			class = "w"
		}
		token := oneToken.FindString(s[i:])
		switch {
		case !strings.Contains(next, class):
			return nil, api.Fault{Err: api.ErrJson, At: i}
		case token == "" && class == `"`:
			return nil, api.Fault{Err: api.ErrJsonText, At: i}
		case token == "":
			return nil, api.Fault{Err: api.ErrJson, At: i}
		case strings.Contains("{[", class) && len(open) == 200:
			return nil, api.Fault{Err: api.ErrDepth, At: i}
		}
		l = append(l, piece{token, i})
		i += len(token)
		last := ""
		if open != "" {
			last = open[len(open)-1:]
		}
		switch {
		case class == "{":
			open, next = open+"{", `"}`
		case class == "[":
			open, next = open+"[", value+"]"
		case class == ":":
			next = value
		case class == "," && last == "{":
			next = `"`
		case class == ",":
			next = value
		case class == `"` && (next == `"}` || next == `"`):
			next = ":"
		default: // a value, or what ends one
			if class == "}" || class == "]" {
				open = open[:len(open)-1]
			}
			next = ""
			if open != "" {
				next = map[byte]string{'{': ",}", '[': ",]"}[open[len(open)-1]]
			}
		}
	}
}

// part is a value of a text with what is in it.
type part struct {
	piece
	parts []part // of an array its values, of an object its members' values
	names []part // of an object
}

// grown makes the value that begins a row of tokens; it tells the other tokens.
func grown(l []piece) (part, []piece) {
	p := part{piece: l[0]}
	l = l[1:]
	for close := map[string]string{"{": "}", "[": "]"}[p.text]; close != ""; {
		if l[0].text == close {
			return p, l[1:]
		}
		if l[0].text == "," {
			l = l[1:]
		}
		if close == "}" {
			p.names = append(p.names, part{piece: l[0]})
			l = l[2:]
		}
		var in part
		in, l = grown(l)
		p.parts = append(p.parts, in)
	}
	return p, l
}

// means is what a string means, by the library.
func (p part) means() string {
	var s string
	if err := stdjson.Unmarshal([]byte(p.text), &s); err != nil {
		panic(p.text)
	}
	return s
}

func (p part) isString() bool { return p.text[0] == '"' }

func (p part) isNumber() bool { return strings.Contains("-0123456789", p.text[:1]) }

// second is a second reading of P1206 for a schema: of a text that is taken apart already. It throws the first fault.
type second struct{ s *bind.Schema }

func throw(p part, e api.Errno) { panic(api.Fault{Err: e, At: p.at}) }

// secondly reads a text as Parse does.
func secondly(s *bind.Schema, name, text string) (v api.Value, bad api.Fault) {
	if _, e := s.Message(name); e != api.OK {
		return api.Value{}, api.Fault{Err: e}
	}
	l, bad := looked(text)
	if bad.Err != api.OK {
		return api.Value{}, bad
	}
	defer func() {
		if thrown := recover(); thrown != nil {
			v, bad = api.Value{}, thrown.(api.Fault)
		}
	}()
	top, _ := grown(l)
	typed := second{s}.message(top, name, 1)
	v, _, e := tree.Normalise(s, name, typed)
	if e != api.OK {
		panic(fmt.Sprint(short(typed), e))
	}
	if _, e := encode.New(s).Size(name, v); e != api.OK {
		return api.Value{}, api.Fault{Err: e}
	}
	return v, api.Fault{}
}

func (r second) message(p part, name string, level int) api.Value {
	if p.text != "{" {
		throw(p, api.ErrShape)
	}
	if level > 64 {
		throw(p, api.ErrDepth)
	}
	v := msg()
	var ahead []api.Field
	for i, member := range p.names {
		f, e := r.s.Named(name, member.means())
		if e != api.OK || slices.Contains(ahead, f) {
			throw(member, api.ErrMember)
		}
		ahead = append(ahead, f)
		if p.parts[i].text == "null" {
			continue
		}
		for _, in := range v.Fields {
			if g, _ := r.s.Field(name, in.Number); f.Oneof > 0 && g.Oneof == f.Oneof {
				throw(member, api.ErrJsonOneof)
			}
		}
		v.Fields = append(v.Fields, at(f.Number, r.field(p.parts[i], f, level)))
	}
	return v
}

func (r second) field(p part, f api.Field, level int) api.Value {
	switch f.Card {
	case api.CRepeated:
		if p.text != "[" {
			throw(p, api.ErrShape)
		}
		v := list()
		for _, in := range p.parts {
			v.List = append(v.List, r.value(in, f, level))
		}
		return v
	case api.CMap:
		if p.text != "{" {
			throw(p, api.ErrShape)
		}
		v := dict()
		for i, in := range p.parts {
			k := r.key(p.names[i], f.Key)
			if slices.ContainsFunc(v.List, func(old api.Value) bool { return same(old.List[0], k) }) {
				throw(p.names[i], api.ErrMember)
			}
			v.List = append(v.List, pair(k, r.value(in, f, level)))
		}
		return v
	}
	return r.value(p, f, level)
}

func (r second) key(name part, typ int) api.Value {
	switch typ {
	case api.TString:
		return text(name.means())
	case api.TBool:
		n := slices.Index([]string{"false", "true"}, name.means())
		if n < 0 {
			throw(name, api.ErrShape)
		}
		return num(n)
	}
	return r.number(name, name.means(), typ)
}

// number is the number of a text, by the library's great numbers.
func (r second) number(p part, s string, typ int) api.Value {
	n, ok := new(big.Int).SetString(s, 10)
	if !ok || !integerText.MatchString(s) {
		throw(p, api.ErrJsonNumber)
	}
	least, most := boundsOf(typ)
	if n.Cmp(least) < 0 || n.Cmp(most) > 0 {
		throw(p, api.ErrJsonNumber)
	}
	if n.IsInt64() {
		return num(int(n.Int64()))
	}
	return num(int(n.Uint64()))
}

// boundsOf are the least and the greatest number that texts of a type say.
func boundsOf(typ int) (*big.Int, *big.Int) {
	bits := uint(32)
	if slices.Contains([]int{api.TInt64, api.TSint64, api.TSfixed64, api.TUint64, api.TFixed64}, typ) {
		bits = 64
	}
	zero, one := big.NewInt(0), big.NewInt(1)
	all := new(big.Int).Lsh(one, bits)
	if slices.Contains([]int{api.TUint32, api.TFixed32, api.TUint64, api.TFixed64}, typ) {
		return zero, all.Sub(all, one)
	}
	half := all.Rsh(all, 1)
	return new(big.Int).Neg(half), new(big.Int).Sub(half, one)
}

func (r second) value(p part, f api.Field, level int) api.Value {
	switch f.Type {
	case api.TMessage:
		return r.message(p, f.Of, level+1)
	case api.TBool:
		n := slices.Index([]string{"false", "true"}, p.text)
		if n < 0 {
			throw(p, api.ErrShape)
		}
		return num(n)
	case api.TEnum:
		return r.enum(p, f)
	case api.TDouble, api.TFloat, api.TString, api.TBytes:
		if !p.isString() {
			throw(p, api.ErrShape)
		}
		return r.said(p, f.Type)
	}
	switch {
	case p.isString():
		return r.number(p, p.means(), f.Type)
	case p.isNumber():
		return r.number(p, p.text, f.Type)
	}
	throw(p, api.ErrShape)
	return api.Value{}
}

func (r second) enum(p part, f api.Field) api.Value {
	d, _ := r.s.Enum(f.Of)
	switch {
	case p.isString():
		i := slices.IndexFunc(d.Values, func(v api.EnumValue) bool { return v.Name == p.means() })
		if i < 0 {
			throw(p, api.ErrJsonEnum)
		}
		return num(d.Values[i].Number)
	case p.isNumber():
		return r.number(p, p.text, f.Type)
	}
	throw(p, api.ErrShape)
	return api.Value{}
}

// said is a value that is said by a string.
func (r second) said(p part, typ int) api.Value {
	s := p.means()
	switch typ {
	case api.TString:
		return text(s)
	case api.TBytes:
		b, err := stdbase64.StdEncoding.Strict().DecodeString(s)
		if err != nil || strings.ContainsAny(s, "\r\n") {
			throw(p, api.ErrBase64)
		}
		return text(string(b))
	}
	digits := map[int]int{api.TDouble: 16, api.TFloat: 8}[typ]
	if !regexp.MustCompile(fmt.Sprintf(`^[0-9a-f]{%d}$`, digits)).MatchString(s) || len(s) != digits {
		throw(p, api.ErrJsonNumber)
	}
	u, err := strconv.ParseUint(s, 16, 64)
	if err != nil {
		panic(err)
	}
	return num(int(u))
}

// secondText is a second writing by P1205: of a normal tree.
func secondText(s *bind.Schema, name string, v api.Value) string {
	var members []string
	for _, in := range v.Fields {
		f, _ := s.Field(name, in.Number)
		var value string
		switch f.Card {
		case api.CRepeated:
			var l []string
			for _, one := range in.Value.List {
				l = append(l, secondValue(s, f, one))
			}
			value = "[" + strings.Join(l, ",") + "]"
		case api.CMap:
			var l []string
			for _, p := range in.Value.List {
				k := strings.Trim(secondValue(s, api.Field{Type: f.Key}, p.List[0]), `"`)
				if f.Key == api.TString {
					k = strings.TrimPrefix(strings.TrimSuffix(secondQuote(p.List[0].Text), `"`), `"`)
				}
				l = append(l, `"`+k+`":`+secondValue(s, f, p.List[1]))
			}
			value = "{" + strings.Join(l, ",") + "}"
		default:
			value = secondValue(s, f, in.Value)
		}
		members = append(members, `"`+f.Json+`":`+value)
	}
	return "{" + strings.Join(members, ",") + "}"
}

func secondValue(s *bind.Schema, f api.Field, v api.Value) string {
	switch f.Type {
	case api.TMessage:
		return secondText(s, f.Of, v)
	case api.TBool:
		return []string{"false", "true"}[v.Num]
	case api.TEnum:
		d, _ := s.Enum(f.Of)
		for _, named := range d.Values {
			if named.Number == v.Num {
				return `"` + named.Name + `"`
			}
		}
		return fmt.Sprint(v.Num)
	case api.TDouble:
		return fmt.Sprintf(`"%016x"`, uint64(v.Num))
	case api.TFloat:
		return fmt.Sprintf(`"%08x"`, v.Num)
	case api.TString:
		return secondQuote(v.Text)
	case api.TBytes:
		return `"` + stdbase64.StdEncoding.EncodeToString([]byte(v.Text)) + `"`
	case api.TUint64, api.TFixed64:
		return fmt.Sprintf(`"%d"`, uint64(v.Num))
	case api.TInt64, api.TSint64, api.TSfixed64:
		return fmt.Sprintf(`"%d"`, v.Num)
	}
	return fmt.Sprint(v.Num)
}

// secondQuote is a second writing by P1204.
func secondQuote(s string) string {
	var b strings.Builder
	for _, c := range []byte(s) {
		switch {
		case c == '"' || c == '\\':
			b.WriteString(`\` + string(rune(c)))
		case c == 8:
			b.WriteString(`\b`)
		case c == 12:
			b.WriteString(`\f`)
		case c == 10:
			b.WriteString(`\n`)
		case c == 13:
			b.WriteString(`\r`)
		case c == 9:
			b.WriteString(`\t`)
		case c < 32:
			fmt.Fprintf(&b, `\u%04x`, c)
		default:
			b.WriteByte(c)
		}
	}
	return `"` + b.String() + `"`
}

// looks looks whether Compact answers of a text what the second reading says; and the library, as far as it says the same.
func looks(t *testing.T, s string) {
	t.Helper()
	l, want := looked(s)
	var b strings.Builder
	for _, p := range l {
		b.WriteString(p.text)
	}
	got, bad := json.Compact(s)
	if bad != want || got != b.String() {
		t.Errorf("P1202: Compact(%s) = %s, %+v, want %s, %+v", some(s), some(got), bad, some(b.String()), want)
	}
	if valid := stdjson.Valid([]byte(s)); valid != (bad == api.Fault{}) && bad.Err != api.ErrJsonText && bad.Err != api.ErrDepth {
		t.Errorf("P1202: Compact(%s) answers %+v, the library says %v", some(s), bad, valid)
	}
}

// agrees looks whether Parse answers of a text what the second reading says, and whether all that is promised of such an answer holds.
func agrees(t *testing.T, s *bind.Schema, name, text string) api.Fault {
	t.Helper()
	c := json.New(s)
	want, bad := secondly(s, name, text)
	got, fault := c.Parse(name, text)
	if fault != bad || !same(got, want) {
		t.Errorf("P1206: Parse(%q, %s) = %s, %+v, want %s, %+v", name, some(text), short(got), fault, short(want), bad)
		return bad
	}
	if bad.Err != api.OK {
		if bare, none := json.Compact(text); none.Err == api.OK {
			if _, fault := c.Parse(name, bare); fault.Err != bad.Err {
				t.Errorf("P1208: Parse(%q, %s) answers %+v, want %v", name, some(bare), fault, bad.Err)
			}
		}
		return bad
	}
	told, e := c.Print(name, got)
	if e != api.OK || told != secondText(s, name, want) {
		t.Errorf("P1205: Print(%q, %s) = %s, %v, want %s", name, short(got), some(told), e, some(secondText(s, name, want)))
	}
	reads(t, s, name, text, want)
	return bad
}
