package json_test

import (
	"fmt"
	"strings"
	"testing"

	"sigil/api"
	"sigil/json"
)

// stand is a place of a text: what is ahead of it, and which tokens may stand there, by their first bytes: 0 for all numbers, w for all words. Where nothing may stand the text may end.
type stand struct{ ahead, may string }

const values = `{["0w`

// stands are all kinds of places.
func stands() []stand {
	// Each number is 0, behind which no digit goes on with it.
	l := []stand{
		{``, values}, {`0`, ``}, {`{}`, ``}, {`[]`, ``}, {`"a"`, ``}, {`true`, ``}, {`[0]`, ``}, {`{"a":0}`, ``},
		{`[`, values + "]"}, {`[0`, ",]"}, {`[{}`, ",]"}, {`["a"`, ",]"}, {`[null`, ",]"}, {`[0,`, values}, {`[[],`, values}, {`[0,0`, ",]"},
		{`{`, `"}`}, {`{"a"`, ":"}, {`{"a":`, values}, {`{"a":0`, ",}"}, {`{"a":"b"`, ",}"}, {`{"a":[]`, ",}"}, {`{"a":0,`, `"`}, {`{"a":0,"b"`, ":"}, {`{"a":0,"b":`, values}, {`{"a":0,"b":0`, ",}"},
		{`[{`, `"}`}, {`{"a":[`, values + "]"}, {`[[0]`, ",]"}, {`{"a":{"b":0}`, ",}"}, {`[{"a":0,`, `"`}, {`{"":[{"":[`, values + "]"},
	}
	blanks := strings.NewReplacer("{", " { ", "}", " } ", "[", "\n[ ", "]", " ]\t", ":", "\r: ", ",", " , ")
	for _, p := range l {
		l = append(l, stand{blanks.Replace(p.ahead) + "\t\r\n ", p.may})
	}
	return l
}

// classOf tells the class of tokens that a byte begins, as a stand tells them; 0, if none.
func classOf(c byte) byte {
	switch {
	case strings.IndexByte(`{}[]:,"`, c) >= 0:
		return c
	case strings.IndexByte("-0123456789", c) >= 0:
		return '0'
	case strings.IndexByte("tfn", c) >= 0:
		return 'w'
	}
	return 0
}

func TestEveryByte(t *testing.T) { // P1202: every byte where a token may stand, with nothing behind it
	for _, p := range stands() {
		for c := range 256 {
			b := byte(c)
			s, place := p.ahead+string([]byte{b}), len(p.ahead)
			class := classOf(b)
			stands := class != 0 && strings.IndexByte(p.may, class) >= 0
			whole := stands && strings.IndexByte("-tfn\"", b) < 0 // else the byte alone is no token
			switch {
			case b >= 0x80:
				faulty(t, s, place, api.ErrJsonText)
			case strings.IndexByte(" \t\r\n", b) >= 0 && p.may == "":
				compacts(t, s, strings.Join(strings.Fields(p.ahead), ""))
			case strings.IndexByte(" \t\r\n", b) >= 0:
				faulty(t, s, place+1, api.ErrJson)
			case stands && b == '"':
				faulty(t, s, place, api.ErrJsonText)
			case !whole:
				faulty(t, s, place, api.ErrJson)
			}
			looks(t, s)
		}
	}
}

func TestEveryToken(t *testing.T) { // P1202: every kind of token where it may stand, and where it may not
	tokens := []string{`{`, `}`, `[`, `]`, `:`, `,`, `true`, `false`, `null`, `0`, `-0`, `7`, `-12.50e+3`, `1E5`, `""`, `"a"`, `"\""`, `"é\u0000"`}
	ends := []string{``, ` `, `,`, `]`, `}`, `:`, `:1}`, `1`, `"a"`, `]]`, `}}`, `{`, `[`, `:[]}]}`, `x`, `é`}
	for _, p := range stands() {
		for _, token := range tokens {
			may := strings.IndexByte(p.may, classOf(token[0])) >= 0
			for _, end := range ends {
				s := p.ahead + token + end
				looks(t, s)
				if !may {
					faulty(t, s, len(p.ahead), api.ErrJson)
					continue
				}
				if _, bad := json.Compact(s); bad.Err != api.OK && bad.At <= len(p.ahead) {
					t.Errorf("P1202: Compact(%s) answers %+v, but the token at %d may stand there", some(s), bad, len(p.ahead))
				}
			}
		}
	}
}

func TestStringsThatAreNone(t *testing.T) { // P1202: a quote that begins no string, where one may stand and where none may
	wrong := []string{`"`, `"a`, `"\"`, `"\`, `"\q"`, `"\u"`, `"\u12"`, `"\ud800"`, `"\udc00"`, "\"\n\"", "\"\x00\"", "\"a\x1f\"", `"\U0041"`, `"\'"`, `"é`}
	for _, p := range stands() {
		for _, token := range wrong {
			want := api.ErrJson
			if strings.Contains(p.may, `"`) {
				want = api.ErrJsonText
			}
			faulty(t, p.ahead+token, len(p.ahead), want)
			faulty(t, p.ahead+token+"]}", len(p.ahead), want)
			if !strings.Contains(token[1:], `"`) {
				continue
			}
			looks(t, p.ahead+token+`:"a"`)
		}
	}
}

func TestEveryEnd(t *testing.T) { // P1202: texts that end at every place
	for _, s := range []string{
		`{"a":[1,-2.5e+10,true,false,null,"x\n\u00e9\ud83d\ude00é"],"b":{"c":{},"d":[]},"":"","e":0}`,
		" [ { \"a\" : [ ] , \"b\" : { } } , [ [ 10 , 0.25 ] ] , \"\\\\\" ] ",
		`"\"\\\/\b\f\n\r\t\u0000\udbff\udfff"`, `-10.25E-100`, `true`, `false`, `null`, ` { } `, `[]`,
	} {
		whole, bad := json.Compact(s)
		if bad != (api.Fault{}) {
			t.Fatalf("P1203: Compact(%s) answers %+v", s, bad)
		}
		for i := range len(s) {
			looks(t, s[:i])
			got, bad := json.Compact(s[:i])
			last := strings.TrimRight(s[:i], " ")
			number := len(last) > 0 && whole[0] == '-' && strings.IndexByte("0123456789", last[len(last)-1]) >= 0
			switch {
			case got == whole || number: // only blanks are missing, or what is there is a number too
			case bad.Err == api.OK:
				t.Errorf("P1202: Compact(%s) answers OK", some(s[:i]))
			case bad.At > i || bad.Err != api.ErrJson && bad.Err != api.ErrJsonText:
				t.Errorf("P1202: Compact(%s) answers %+v", some(s[:i]), bad)
			}
		}
	}
	for _, s := range []string{"", " ", "[", "[ ", "[1", "[1 ", "[1,", "[1, ", "{", "{ ", `{"a"`, `{"a" `, `{"a":`, `{"a": `, `{"a":1`, `{"a":1 `, `{"a":1,`, `{"a":[{`} {
		faulty(t, s, len(s), api.ErrJson) // where a token must stand: at the text's length
	}
	for _, s := range []string{"^t", "^tru", "^fals", "^n", "[^nul", "[1,^-", `{"a":^f`, "1^.", "1^e", "1^e+", "1.5^e-", "0^.", "[^-]", "^truE", "^nulL", "^True", "true^x", "true ^x"} {
		s, place := marked(s)
		faulty(t, s, place, api.ErrJson)
	}
	faulty(t, "nullnull", 4, api.ErrJson)
	faulty(t, "[truefalse]", 5, api.ErrJson)
	faulty(t, `""""`, 2, api.ErrJson)
	faulty(t, "[1-2]", 2, api.ErrJson)
	faulty(t, "[0x10]", 2, api.ErrJson)
	faulty(t, "1\x00", 1, api.ErrJson)
	faulty(t, "\x00", 0, api.ErrJson)
	faulty(t, "[]\x00", 2, api.ErrJson)
}

// rows calls with all rows of up to so many of some parts.
func rows(parts []string, most int, each func(s string)) {
	var grow func(s string, left int)
	grow = func(s string, left int) {
		each(s)
		if left == 0 {
			return
		}
		for _, p := range parts {
			grow(s+p, left-1)
		}
	}
	grow("", most)
}

func TestSmallTexts(t *testing.T) { // P1201, P1202: all small texts of telling parts
	rows([]string{"{", "}", "[", "]", ":", ",", `"a"`, "1", "null", " ", `"`, `\`, "-", "t"}, 4, func(s string) { looks(t, s) })
	rows([]string{"{", "}", "[", "]", ":", ",", `"a"`, "1"}, 5, func(s string) { looks(t, s) })
	rows([]string{"{", "}", `"a":`, ",", "[", "]", "0 "}, 6, func(s string) { looks(t, s) })
}

func TestNumbers(t *testing.T) { // P1201: numbers with and without each of their parts, and the longest row that is one
	for _, sign := range []string{"", "-"} {
		for _, whole := range []string{"0", "1", "9", "10", "19", "90", "1234567890", strings.Repeat("9", 400)} {
			for _, point := range []string{"", ".0", ".5", ".00", ".125", "." + strings.Repeat("7", 400)} {
				for _, power := range []string{"", "e0", "E0", "e+0", "E-0", "e5", "E+12", "e-007", "e" + strings.Repeat("1", 400)} {
					n := sign + whole + point + power
					compacts(t, n, n)
					compacts(t, " [ "+n+" , "+n+"\n]", "["+n+","+n+"]")
					compacts(t, `{"a":`+n+`}`, `{"a":`+n+`}`)
				}
			}
		}
	}
	for _, s := range []string{
		"0^0", "0^1", "-0^1", "-0^0", "1^.", "1^.e5", "1.5^.5", "1e5^.5", "1e5^e5", "1^e", "1^e+", "1^E-", "1^ee5", "1^e++5", "1^+", "1^-", "1.0^-1", "^+1", "^.5", "^-", "^--1", "^-.5", "^-e5", "^-a", "^e5", "^E5",
		"1^_000", "0^x1", "0^b1", "^Infinity", "^-Infinity", "^NaN", "^-NaN", "1^a", "1^'", "[1^.]", "1^é", "^½", "^１",
	} {
		s, place := marked(s)
		faulty(t, s, place, api.ErrJson)
	}
	rows(strings.Split("-01.eE+", ""), 6, func(s string) { looks(t, s) })
	rows(strings.Split("-0.e5 ", ""), 7, func(s string) { looks(t, s) })
}

func TestEscapes(t *testing.T) { // P1201: every escape and every byte that begins none; small and great digits
	s := smallSchema()
	meant := map[byte]string{'"': "\x22", '\\': "\x5c", '/': "\x2f", 'b': "\x08", 'f': "\x0c", 'n': "\x0a", 'r': "\x0d", 't': "\x09"}
	for c := range 128 {
		token := `"x\` + string(rune(c)) + `y"`
		if want, ok := meant[byte(c)]; ok {
			reads(t, s, "p.M", `{"b":`+token+`}`, one(2, text("x"+want+"y")))
			continue
		}
		faulty(t, `{"b":`+token+`}`, 5, api.ErrJsonText)
	}
	for _, digits := range []string{"0041", "00e9", "00E9", "fFfF", "ABCD", "abcd", "aBcD", "0000", "001f", "0022", "005c", "d7ff", "D7FF", "e000", "FFFF", "feff", "2028", "0080", "07ff", "0800"} {
		var n rune
		fmt.Sscanf(digits, "%x", &n)
		reads(t, s, "p.M", `{"b":"-\u`+digits+`0"}`, one(2, text("-"+string(n)+"0")))
	}
	for i := range 4 { // each byte at the place of each digit
		for c := range 128 {
			digits := []byte("0100")
			digits[i] = byte(c)
			token := `"\u` + string(digits) + `"`
			if strings.IndexByte("0123456789abcdefABCDEF", byte(c)) < 0 {
				faulty(t, `{"b":`+token+`}`, 5, api.ErrJsonText)
			} else if i > 0 || c != 'd' && c != 'D' {
				var n rune
				fmt.Sscanf(string(digits), "%x", &n)
				reads(t, s, "p.M", `{"b":`+token+`}`, one(2, text(string(n))))
			}
		}
	}
	for _, token := range []string{`"\u"`, `"\u1"`, `"\u12"`, `"\u123"`, `"\u123`, `"\u123\"`, `"\u 123"`, `"\u+123"`, `"\u-123"`, `"\u0x12"`, `"\u1_23"`, `"\U0041"`, `"\x41"`, `"\0"`, `"\`, `"\"`, `"\\\"`, `"\é"`, `"\u004é"`} {
		faulty(t, `{"b":`+token, 5, api.ErrJsonText)
	}
}

func TestHalves(t *testing.T) { // P1201: pairs of \u, and halves of such pairs
	s := smallSchema()
	numbers := []int{0x0000, 0x0041, 0xd7ff, 0xd800, 0xd801, 0xda00, 0xdbff, 0xdc00, 0xdc01, 0xde00, 0xdfff, 0xe000, 0xffff}
	high := func(n int) bool { return n >= 0xd800 && n <= 0xdbff }
	low := func(n int) bool { return n >= 0xdc00 && n <= 0xdfff }
	for _, form := range []string{`\u%04x`, `\u%04X`} {
		write := func(n int) string { return fmt.Sprintf(form, n) }
		for _, a := range numbers {
			if high(a) || low(a) {
				for _, end := range []string{``, `x`, ` `, `\n`, `\\`, `dc00`, `\udc0`, `\Udc00`, `udc00`} {
					faulty(t, `{"b":"`+write(a)+end+`"}`, 5, api.ErrJsonText)
				}
				faulty(t, `{"b":"`+write(a), 5, api.ErrJsonText)
				faulty(t, `{"b":"`+write(a)+`\`, 5, api.ErrJsonText)
				faulty(t, `{"b":"`+write(a)+`\u`, 5, api.ErrJsonText)
			}
			for _, b := range numbers {
				token := `"` + write(a) + write(b) + `"`
				switch {
				case high(a) && low(b):
					c := 65536 + 1024*(a-0xd800) + (b - 0xdc00)
					reads(t, s, "p.M", `{"b":`+token+`}`, one(2, text(string(rune(c)))))
				case high(a) || low(a) || high(b) || low(b):
					faulty(t, `{"b":`+token+`}`, 5, api.ErrJsonText)
				default:
					reads(t, s, "p.M", `{"b":`+token+`}`, one(2, text(string(rune(a))+string(rune(b)))))
				}
				for _, c := range numbers {
					looks(t, `["`+write(a)+write(b)+write(c)+`"]`)
				}
			}
		}
	}
	reads(t, s, "p.M", `{"b":"\ud800\udc00\udbff\udfff\uD83D\uDe00"}`, one(2, text("\U00010000\U0010ffff\U0001f600")))
}

func TestBytesOfStrings(t *testing.T) { // P1201: every byte that may stand in a string by itself, and those that may not
	s := smallSchema()
	for c := range 128 {
		token := `"` + string(rune(c)) + `"`
		switch {
		case c < 32:
			faulty(t, `{"b":`+token+`}`, 5, api.ErrJsonText)
		case c == '"': // the string ends at it, and another one begins
			faulty(t, `{"b":`+token+`}`, 7, api.ErrJson)
		case c == '\\': // the quote behind it does not end the string
			faulty(t, `{"b":`+token+`}`, 5, api.ErrJsonText)
		default:
			reads(t, s, "p.M", `{"b":`+token+`}`, one(2, text(string(rune(c)))))
		}
	}
	for _, c := range []string{"\x7f", "\u0080", "é", "\u07ff", "\u0800", "\u2028", "\ud7ff", "\ue000", "\ufeff", "\ufffd", "\uffff", "\U00010000", "\U0010ffff", "//", "a b", "{}[]:,"} {
		reads(t, s, "p.M", `{"b":"`+c+`"}`, one(2, text(c)))
		compacts(t, ` "`+c+`" `, `"`+c+`"`)
	}
}

func TestNotUtf8(t *testing.T) { // P1202: texts that are not UTF-8, ahead of all other faults wherever they stand
	for _, bad := range []string{"\xff", "\x80", "\xc3", "\xc0\x80", "\xe2\x82", "\xed\xa0\x80", "\xf4\x90\x80\x80", "\xf0\x9f\x98", "\xfe"} {
		for _, s := range []string{"^", "[^]", `["^"]`, `["é^"]`, `{"^":1}`, "[1]^", " ^ ", "]^", `{"a":1,}^`, `"\q"^`, "x\x01^", strings.Repeat("[", 300) + "^", `["\^"]`, `["\u00^41"]`} {
			s, place := marked(s)
			faulty(t, s[:place]+bad+s[place:], place, api.ErrJsonText)
			faulty(t, s[:place]+bad+s[place:]+bad, place, api.ErrJsonText)
		}
	}
	faulty(t, "é\xffé", 2, api.ErrJsonText)
	faulty(t, "é", 0, api.ErrJson)
	faulty(t, "\ufeff{}", 0, api.ErrJson)
	faulty(t, "{}\u00a0", 2, api.ErrJson)
}

func TestNest(t *testing.T) { // P1202: 200 and 201 signs open
	const most = api.MaxNest
	open := strings.Repeat
	for _, c := range []struct{ open, close string }{{"[", "]"}, {`{"a":`, "}"}, {`[{"a":`, "}]"}, {"[1,", "]"}, {" [ [\n", "]]"}} {
		signs := strings.Count(c.open, "[") + strings.Count(c.open, "{")
		n := most / signs
		ahead := open(c.open, n)
		bare := strings.NewReplacer(" ", "", "\n", "").Replace(ahead)
		compacts(t, ahead+"1"+open(c.close, n), bare+"1"+open(c.close, n))
		faulty(t, ahead+"["+"]"+open(c.close, n), len(ahead), api.ErrDepth)
		faulty(t, ahead+" {", len(ahead)+1, api.ErrDepth)
		faulty(t, ahead+"[\x00", len(ahead), api.ErrDepth)
		faulty(t, ahead, len(ahead), api.ErrJson)
		faulty(t, ahead+"}", len(ahead), api.ErrJson)
		faulty(t, ahead+"1[", len(ahead)+1, api.ErrJson) // it may not stand there anyhow
		faulty(t, ahead+"1"+c.close[:1]+"[", len(ahead)+2, api.ErrJson)
	}
	faulty(t, open("[", most-1)+"{{", most, api.ErrJson)
	faulty(t, open("[", most-1)+`{"a":[`, most+4, api.ErrDepth)
	faulty(t, open("[", most+1), most, api.ErrDepth)
	faulty(t, open("[", 100000), most, api.ErrDepth)
	faulty(t, open(`{"":`, 100000), 4*most, api.ErrDepth)
	// What is closed is open no more.
	deep := open("[", most-1) + open("]", most-1)
	compacts(t, "["+deep+","+deep+","+deep+"]", "["+deep+","+deep+","+deep+"]")
	faulty(t, "["+deep+","+"["+deep+"]]", 1+len(deep)+1+most-1, api.ErrDepth)
	wide := open("[],{},", 1000)
	compacts(t, "["+wide+"0]", "["+wide+"0]")
}

func TestLongTexts(t *testing.T) { // P1202: texts of MaxJson bytes and of one more
	const most = api.MaxJson
	blanks := strings.Repeat(" ", most-2)
	compacts(t, "{"+blanks+"}", "{}")
	reads(t, smallSchema(), "p.M", "{"+blanks+"}", msg())
	faulty(t, "{"+blanks+"]", most-1, api.ErrJson)
	faulty(t, "{"+blanks+" ", most, api.ErrJson)
	faulty(t, "{"+blanks+"\xff", most-1, api.ErrJsonText)
	faulty(t, "{"+blanks+" }", 0, api.ErrLong)
	faulty(t, "\xff"+blanks+" }", 0, api.ErrLong)
	faulty(t, "]"+blanks+"  ", 0, api.ErrLong)
	long := `"` + blanks + `"`
	compacts(t, long, long)
	faulty(t, long[:most-1]+"é"[:1], most-1, api.ErrJsonText)
	faulty(t, long+"\xff", 0, api.ErrLong)
	digits := strings.Repeat("9", most)
	compacts(t, digits, digits)
	faulty(t, digits+"9", 0, api.ErrLong)
}

func TestBlanks(t *testing.T) { // P1201, P1203: every blank at every place between tokens, and what is none
	tokens := []string{"[", `{`, `"a b"`, ":", "-1.5e3", ",", `"\n"`, ":", "[", "]", "}", ",", "null", ",", "true", ",", "false", ",", `""`, ",", "{", "}", "]"}
	bare := strings.Join(tokens, "")
	for _, blank := range []string{"", " ", "\t", "\n", "\r", "\r\n", " \t\r\n", strings.Repeat(" \n", 500)} {
		compacts(t, blank+strings.Join(tokens, blank)+blank, bare)
		for i := range tokens {
			compacts(t, strings.Join(tokens[:i], "")+blank+strings.Join(tokens[i:], ""), bare)
		}
	}
	for _, c := range []string{"\v", "\f", "\x00", "\x1f", "\x7f", "\u0085", "\u00a0", "\u2028", "\ufeff", "/**/", "//\n", "#", ";"} {
		for i := range len(tokens) + 1 {
			ahead := strings.Join(tokens[:i], "")
			faulty(t, ahead+c+strings.Join(tokens[i:], ""), len(ahead), api.ErrJson)
		}
	}
	compacts(t, `" a "`, `" a "`) // blanks in a string are none
}
