package shell_test

import (
	"fmt"
	"regexp"
	"slices"
	"strconv"
	"strings"
	"testing"

	"sigil/api"
	"sigil/shell"
)

func number(n int) string { return strconv.Itoa(n) }

// wordsAre looks at the words of a line.
func wordsAre(t *testing.T, line string, want []string, e api.Errno) {
	t.Helper()
	got, bad := shell.Words(line)
	if bad != e || !slices.Equal(got, want) {
		t.Errorf("P2001: Words(%.80q) = %.80q, %v, want %.80q, %v", line, got, bad, want, e)
	}
	if bad != api.OK && got != nil {
		t.Errorf("P4: Words(%.80q) = %q beside %v", line, got, bad)
	}
}

// refusesLine looks at the refusal of a line that is no words and blanks.
func refusesLine(t *testing.T, line string) {
	t.Helper()
	wordsAre(t, line, nil, api.ErrCommand)
}

// The second reading of a line: what a word is says a regular expression.
var (
	oneWord   = regexp.MustCompile(`^(?:[^ \t"\\#\x00-\x1f\x7f][^ \t"\\\x00-\x1f\x7f]*|"(?:[^"\\\x00-\x1f\x7f]|\\[\\"nt]|\\x[0-9a-fA-F]{2})*")(?:[ \t]+|$)`)
	oneEscape = regexp.MustCompile(`\\(?:[\\"nt]|x..)`)
)

// secondWords tells the words of a line by the second reading.
func secondWords(line string) ([]string, api.Errno) {
	if len(line) > 65536 {
		return nil, api.ErrLong
	}
	var l []string
	rest := strings.TrimLeft(line, " \t")
	for rest != "" && rest[0] != '#' {
		n := len(oneWord.FindString(rest))
		if n == 0 {
			return nil, api.ErrCommand
		}
		l, rest = append(l, secondWord(strings.TrimRight(rest[:n], " \t"))), rest[n:]
	}
	return l, api.OK
}

// secondWord tells for what a right word stands. (A quoted one ends with its quote: no blank of it is taken away.)
func secondWord(w string) string {
	if w[0] != '"' {
		return w
	}
	return oneEscape.ReplaceAllStringFunc(w[1:len(w)-1], func(e string) string {
		switch e[1] {
		case 'n':
			return "\n"
		case 't':
			return "\t"
		case 'x':
			n, _ := strconv.ParseUint(e[2:], 16, 8)
			return string([]byte{byte(n)})
		}
		return e[1:]
	})
}

// alikeWords looks whether both readings tell the same of a line.
func alikeWords(t *testing.T, line string) {
	t.Helper()
	want, e := secondWords(line)
	wordsAre(t, line, want, e)
}

// barred says whether a byte stands in no word as it is.
func barred(c int) bool { return c < 32 || c == 127 }

func TestEveryByteBare(t *testing.T) { // P2001: every byte as a bare word's first byte, as its second, as its last one, as a word of its own
	for c := range 256 {
		b := string([]byte{byte(c)})
		switch {
		case c == ' ' || c == '\t':
			wordsAre(t, b, nil, api.OK)
			wordsAre(t, b+"x", []string{"x"}, api.OK)
			wordsAre(t, "x"+b+"y", []string{"x", "y"}, api.OK)
			wordsAre(t, "x"+b, []string{"x"}, api.OK)
		case barred(c) || c == '\\':
			for _, line := range []string{b, b + "x", "x" + b + "y", "x" + b, "x " + b, " " + b + " x", "x" + b + " # y", "é" + b, "\xff" + b} {
				refusesLine(t, line)
			}
		case c == '"':
			for _, line := range []string{b, b + "x", "x" + b + "y", "x" + b, "x " + b, "x" + b + b, "x" + b + "y" + b, "x#" + b} {
				refusesLine(t, line)
			}
		case c == '#':
			wordsAre(t, b, nil, api.OK)
			wordsAre(t, b+"x", nil, api.OK)
			wordsAre(t, "x"+b+"y", []string{"x#y"}, api.OK)
			wordsAre(t, "x"+b, []string{"x#"}, api.OK)
			wordsAre(t, "x"+b+b, []string{"x##"}, api.OK)
			wordsAre(t, "x "+b+"y", []string{"x"}, api.OK)
		default:
			wordsAre(t, b, []string{b}, api.OK)
			wordsAre(t, b+"x", []string{b + "x"}, api.OK)
			wordsAre(t, "x"+b+"y", []string{"x" + b + "y"}, api.OK)
			wordsAre(t, "x"+b, []string{"x" + b}, api.OK)
			wordsAre(t, b+b+b+" "+b, []string{b + b + b, b}, api.OK)
			wordsAre(t, "é"+b+"é", []string{"é" + b + "é"}, api.OK)
		}
	}
}

func TestEveryByteQuoted(t *testing.T) { // P2001: every byte within a quoted word: alone, at its front, in it, at its end
	for c := range 256 {
		b := string([]byte{byte(c)})
		for _, ahead := range []string{"", "x", "é", "\xff", " ", "#"} {
			for _, behind := range []string{"", "y", "é", "\x80", " ", "#"} {
				line := `"` + ahead + b + behind + `"`
				switch {
				case barred(c):
					refusesLine(t, line)
				case c == '"' || c == '\\':
					alikeWords(t, line)
				default:
					wordsAre(t, line, []string{ahead + b + behind}, api.OK)
				}
			}
		}
	}
	// A blank behind the word that a quote ends too early; more does not fit behind it.
	wordsAre(t, `"x" y "z"`, []string{"x", "y", "z"}, api.OK)
	refusesLine(t, `"x" "`)
	refusesLine(t, `"x"y"`)
	refusesLine(t, `""""`)
}

func TestEveryPair(t *testing.T) { // P2001: every two bytes, bare and quoted, by both readings
	for c := range 256 {
		for d := range 256 {
			two := string([]byte{byte(c), byte(d)})
			alikeWords(t, two)
			alikeWords(t, "x"+two+"y")
			alikeWords(t, `"`+two+`"`)
			alikeWords(t, `"`+two)
			alikeWords(t, `"a"`+two)
		}
	}
}

func TestBehindQuoted(t *testing.T) { // P2001: behind a quoted word comes a blank or the line's end, of all bytes
	for c := range 256 {
		b := string([]byte{byte(c)})
		for _, quoted := range []string{`""`, `"x"`, `"\\"`, `"\""`, `"\x41"`} {
			if c != ' ' && c != '\t' {
				refusesLine(t, quoted+b)
				refusesLine(t, quoted+b+"y")
				refusesLine(t, quoted+b+" y")
				continue
			}
			w := secondWord(quoted)
			wordsAre(t, quoted+b, []string{w}, api.OK)
			wordsAre(t, quoted+b+"y", []string{w, "y"}, api.OK)
			wordsAre(t, quoted+b+quoted, []string{w, w}, api.OK)
			wordsAre(t, quoted+b+"#"+quoted, []string{w}, api.OK)
		}
	}
}

func TestEscapes(t *testing.T) { // P2001: every escape, what makes none, what is cut off
	for c := range 256 {
		b := string([]byte{byte(c)})
		stands, ok := map[byte]string{'\\': `\`, '"': `"`, 'n': "\n", 't': "\t"}[byte(c)]
		if ok {
			wordsAre(t, `"\`+b+`"`, []string{stands}, api.OK)
			wordsAre(t, `"x\`+b+`y"`, []string{"x" + stands + "y"}, api.OK)
			wordsAre(t, `"\`+b+`\`+b+`" z`, []string{stands + stands, "z"}, api.OK)
			wordsAre(t, "\"\xff\\"+b+"\xff\"", []string{"\xff" + stands + "\xff"}, api.OK)
		} else {
			refusesLine(t, `"\`+b+`"`)
			refusesLine(t, `"x\`+b+`y"`)
			refusesLine(t, `"\`+b+`" z`)
		}
		for _, form := range []string{`"\x%02x"`, `"\x%02X"`} {
			wordsAre(t, fmt.Sprintf(form, c), []string{b}, api.OK)
		}
		wordsAre(t, fmt.Sprintf(`"a\x%02xb\x%02X\x%02xc"`, c, c, c), []string{"a" + b + "b" + b + b + "c"}, api.OK)
		// No escape stands in a bare word.
		refusesLine(t, `x\`+b)
		refusesLine(t, fmt.Sprintf(`x\x%02x`, c))
		// It is cut off.
		refusesLine(t, fmt.Sprintf(`"\x%02x`, c))
	}
	for _, line := range []string{`"\`, `"a\`, `"\"`, `"\\`, `"\x`, `"\x4`, `"\x41`, `"\n`, `"`, `"a`, `"a" "b`, `"a" "\`, `x "\x4`} {
		refusesLine(t, line)
	}
}

func TestEscapeDigits(t *testing.T) { // P2001: all bytes in the places of the two digits behind \x
	const all = "0123456789abcdefABCDEF"
	for c := range 256 {
		for d := range 256 {
			two := string([]byte{byte(c), byte(d)})
			line := `"<\x` + two + `>"`
			if strings.IndexByte(all, byte(c)) < 0 || strings.IndexByte(all, byte(d)) < 0 {
				refusesLine(t, line)
				continue
			}
			n, _ := strconv.ParseUint(two, 16, 8)
			wordsAre(t, line, []string{"<" + string([]byte{byte(n)}) + ">"}, api.OK)
		}
		one := string([]byte{byte(c)})
		refusesLine(t, `"\x`+one+`"`)
		refusesLine(t, `"\x`+one+`" "`)
		refusesLine(t, `"\x`+one)
	}
	refusesLine(t, `"\x"`)
	refusesLine(t, `"\x" 41"`)
	refusesLine(t, `"\X41"`)
	refusesLine(t, "\"\\xé\"")
	refusesLine(t, "\"\\x1é\"")
	wordsAre(t, `"\x411"`, []string{"A1"}, api.OK)
	wordsAre(t, `"\\x41"`, []string{`\x41`}, api.OK)
	wordsAre(t, `"\\\x41"`, []string{`\A`}, api.OK)
	wordsAre(t, `"\x5c" "\x22" "\x5cn" "\x00"`, []string{`\`, `"`, `\n`, "\x00"}, api.OK)
}

func TestBlanks(t *testing.T) { // P2001: blanks of both kinds, in any number, ahead of, between and behind words
	rows := []string{"", " ", "\t", "  ", "\t\t", " \t", "\t ", " \t \t"}
	for _, ahead := range rows {
		for _, between := range rows[1:] {
			for _, behind := range rows {
				wordsAre(t, ahead+"a"+between+`"b c"`+between+"d"+behind, []string{"a", "b c", "d"}, api.OK)
				wordsAre(t, ahead+`""`+between+`""`+behind, []string{"", ""}, api.OK)
				wordsAre(t, ahead+"a"+between+"#"+behind+"b", []string{"a"}, api.OK)
				wordsAre(t, ahead+`"a"`+between+"# \x00", []string{"a"}, api.OK)
			}
		}
		wordsAre(t, ahead, nil, api.OK)
	}
	// Others are none.
	for _, other := range []string{"\n", "\r", "\v", "\f", "\x00", "\x1f", "\x7f"} {
		refusesLine(t, "a"+other+"b")
		refusesLine(t, other)
		refusesLine(t, "a "+other)
		refusesLine(t, other+"a")
	}
	for _, letter := range []string{"\u00a0", "\u0085", "\u2003", "\u3000", "\ufeff", "\u2028", "\xa0", "\x85"} {
		wordsAre(t, letter, []string{letter}, api.OK)
		wordsAre(t, "a"+letter+"b "+letter, []string{"a" + letter + "b", letter}, api.OK)
	}
}

func TestComments(t *testing.T) { // P2001: at the front, behind blanks, behind words; whatever is in one; within words there is none
	for c := range 256 {
		b := string([]byte{byte(c)})
		wordsAre(t, "#"+b, nil, api.OK)
		wordsAre(t, "# a"+b+`"`, nil, api.OK)
		wordsAre(t, " \t#"+b+"x", nil, api.OK)
		wordsAre(t, "a #"+b, []string{"a"}, api.OK)
		wordsAre(t, `"a" #`+b, []string{"a"}, api.OK)
		wordsAre(t, "a\t##"+b, []string{"a"}, api.OK)
	}
	refusesLine(t, `"a"#`)
	refusesLine(t, `"a"# b`)
	wordsAre(t, "a# b", []string{"a#", "b"}, api.OK)
	wordsAre(t, "a#b#c", []string{"a#b#c"}, api.OK)
	wordsAre(t, "é#", []string{"é#"}, api.OK)
	wordsAre(t, `"#" "a#b" #`, []string{"#", "a#b"}, api.OK)
	// What is refused ahead of a comment.
	refusesLine(t, "\x00 # a")
	refusesLine(t, `" # a`)
	refusesLine(t, `a\ # b`)
}

func TestLineLengths(t *testing.T) { // P2001: lines of MaxScript bytes, and of one more, whatever they are
	const most = api.MaxScript
	if most != 65536 {
		t.Fatal(most)
	}
	full := repeated("x", most)
	wordsAre(t, full, []string{full}, api.OK)
	wordsAre(t, repeated(" ", most), nil, api.OK)
	wordsAre(t, repeated("#", most), nil, api.OK)
	wordsAre(t, `"`+full[2:]+`"`, []string{full[2:]}, api.OK)
	wordsAre(t, repeated("x ", most/2), slices.Repeat([]string{"x"}, most/2), api.OK)
	wordsAre(t, repeated("é", most/2), []string{repeated("é", most/2)}, api.OK)
	wordsAre(t, `"`+repeated(`\x0a`, most/4-1)+`" `, []string{repeated("\n", most/4-1)}, api.OK)
	refusesLine(t, `"`+full[1:])
	refusesLine(t, full[1:]+`"`)
	for _, line := range []string{full + "x", repeated(" ", most+1), repeated("#", most+1), repeated("\x00", most+1), `"` + full, repeated("x", 2*most), repeated(`"`, most+1), "# " + full} {
		wordsAre(t, line, nil, api.ErrLong)
	}
}

func TestManyWords(t *testing.T) { // P2001: the words stand in the order of the line, each by itself
	var lines []string
	var want []string
	for i := range 3000 {
		w := fmt.Sprint("w", i)
		want = append(want, w)
		if i%3 == 0 {
			w = word(w)
		}
		lines = append(lines, w)
	}
	wordsAre(t, strings.Join(lines, " "), want, api.OK)
	wordsAre(t, strings.Join(lines, "\t \t")+" #"+strings.Join(lines, " "), want, api.OK)
}

func TestMadeLines(t *testing.T) { // P2001: lines made of pieces, by both readings
	pieces := []string{" ", "\t", "  ", "#", `"`, `"`, `\`, `\\`, `\"`, `\n`, `\t`, `\x`, `\x4`, `\x41`, `\xfF`, "a", "b#", "0", "é", "\xff", "\xc3", "\x00", "\x7f", "\n", "x", `""`, `"a b"`, `" "`, `"\x00" `}
	refused := 0
	for seed := range int64(60000) {
		m := newMaker(seed)
		var b strings.Builder
		for range m.n(1 + m.n(14)) {
			b.WriteString(pick(m, pieces...))
		}
		alikeWords(t, b.String())
		if _, e := shell.Words(b.String()); e != api.OK {
			refused++
		}
	}
	if refused < 10000 || refused > 55000 {
		t.Error("too few lines of one kind: ", refused)
	}
}
