package parse_test

import (
	"fmt"
	"math/rand"
	"regexp"
	"strings"

	"sigil/api"
	"sigil/scan"
)

// A second reading: the chapter's grammar as it is written there, gone through rule by rule. `!` says which words or signs are refused, `choice`, `value` and `gone` have names of their own here.
const grammarText = `
file     = 'syntax' '=' string ';' { top } end
top      = !option,service,extend ( ';' | package | import | message | enum )
package  = 'package' names ';'
import   = 'import' !public,weak string ';'
message  = 'message' name '{' { member } '}'
member   = !option,extend,extensions,group,required ( ';' | message | enum | oneof | reserved | map | field )
field    = [ ( 'optional' | 'repeated' ) !group ] type name '=' number ![ ';'
map      = 'map' '<' type ',' type '>' name '=' number ![ ';'
oneof    = 'oneof' name '{' { !option,group,optional,repeated,required,oneof,message,enum,reserved ( ';' | choice ) } '}'
choice   = type name '=' number ![ ';'
enum     = 'enum' name '{' { !option ( ';' | reserved | value ) } '}'
value    = name '=' [ '-' ] number ![ ';'
reserved = 'reserved' ( row { ',' row } | gone { ',' gone } ) ';'
gone     = string
row      = [ '-' ] number [ 'to' ( [ '-' ] number | 'max' ) ]
type     = [ '.' ] names
names    = name { '.' name }
`

// declaring are the rules that declare something.
const declaring = " import message enum field map oneof choice value row gone "

// rule is a rule's right side, or a piece of it.
type rule struct {
	op   string // seq, alt, star, opt, quote, call, refuse
	text string
	kids []*rule
}

// grammar reads grammarText.
func grammar() map[string]*rule {
	g := map[string]*rule{}
	for _, line := range strings.Split(strings.TrimSpace(grammarText), "\n") {
		words := strings.Fields(line)
		left := words[2:]
		g[words[0]] = alternatives(&left)
	}
	return g
}

func alternatives(left *[]string) *rule {
	alt := &rule{op: "alt", kids: []*rule{{op: "seq"}}}
	for len(*left) > 0 {
		w := (*left)[0]
		if strings.Contains("})]", w) {
			break
		}
		*left = (*left)[1:]
		seq := alt.kids[len(alt.kids)-1]
		switch {
		case w == "|":
			alt.kids = append(alt.kids, &rule{op: "seq"})
		case strings.Contains("{([", w):
			op := map[string]string{"{": "star", "[": "opt", "(": "seq"}[w]
			seq.kids = append(seq.kids, &rule{op: op, kids: []*rule{alternatives(left)}})
			*left = (*left)[1:]
		case w[0] == '\'':
			seq.kids = append(seq.kids, &rule{op: "quote", text: strings.Trim(w, "'")})
		case w[0] == '!':
			seq.kids = append(seq.kids, &rule{op: "refuse", text: "," + w[1:] + ","})
		default:
			seq.kids = append(seq.kids, &rule{op: "call", text: w})
		}
	}
	return alt
}

// part is what was read by a rule, or one token of it (kind: its rule, or empty for what stands in quotes).
type part struct {
	kind, text string
	parts      []part
}

// modelFault is a fault of the token with that index; behind: it looks back, and comes behind all else of that token.
type modelFault struct {
	index  int
	behind bool
	fault  api.Fault
}

// model goes over tokens, with an end behind them.
type model struct {
	rules  map[string]*rule
	tokens []api.Token
	at     int
	stack  []*part // the rules around
	begins []int   // the first token of each declaration
	named  bool    // there was a package
}

var rules = grammar()

// modelRead is Tokens, of tokens that are not too many.
func modelRead(l []api.Token) (f api.File, bad api.Fault) {
	m := &model{rules: rules}
	end := api.Token{Kind: 5}
	for _, t := range l {
		end.At = t.At + len(t.Text)
		if t.Kind == 5 {
			end = t
			break
		}
		m.tokens = append(m.tokens, t)
	}
	m.tokens = append(m.tokens, end)
	defer func() {
		x := recover()
		first, thrown := x.(modelFault)
		if x != nil && !thrown {
			panic(x)
		}
		if len(m.begins) > 4096 {
			if d := m.begins[4096]; !thrown || d < first.index || d == first.index && first.behind {
				first, thrown = modelFault{fault: api.Fault{Err: api.ErrDecls, At: m.tokens[d].At}}, true
			}
		}
		if thrown {
			f, bad = api.File{}, first.fault
		}
	}()
	top := part{kind: "file"}
	m.stack = append(m.stack, &top)
	m.run(m.rules["file"])
	return fileOf(top), api.Fault{}
}

func (m *model) token() api.Token { return m.tokens[m.at] }

func (m *model) throw(e api.Errno) {
	panic(modelFault{index: m.at, fault: api.Fault{Err: e, At: m.token().At}})
}

func (m *model) wrong() {
	if m.token().Kind == 5 {
		m.throw(api.ErrEnd)
	}
	m.throw(api.ErrSyntax)
}

// quoted says whether a token is what stands in quotes: what begins with a letter is a word, all else a sign.
func quoted(t api.Token, text string) bool {
	if text[0] >= 'a' && text[0] <= 'z' {
		return t.Kind == 1 && t.Text == text
	}
	return t.Kind == 4 && t.Text == text
}

// refuses says whether the token is one of those that a `!` names.
func refuses(r *rule, t api.Token) bool {
	for _, w := range strings.Split(strings.Trim(r.text, ","), ",") {
		if quoted(t, w) {
			return true
		}
	}
	return false
}

// starts says whether a piece of a rule may begin with the token here.
func (m *model) starts(r *rule) bool {
	t := m.token()
	switch r.op {
	case "quote":
		return quoted(t, r.text)
	case "refuse":
		return refuses(r, t)
	case "call":
		switch r.text {
		case "name":
			return t.Kind == 1
		case "number":
			return t.Kind == 2
		case "string":
			return t.Kind == 3
		case "end":
			return t.Kind == 5
		case "map":
			return t.Kind == 1 && t.Text == "map" && quoted(m.tokens[m.at+1], "<")
		}
		return m.starts(m.rules[r.text])
	case "seq":
		for _, k := range r.kids {
			if m.starts(k) {
				return true
			}
			if k.op != "star" && k.op != "opt" && k.op != "refuse" {
				return false
			}
		}
		return false
	}
	for _, k := range r.kids { // alt, star, opt
		if m.starts(k) {
			return true
		}
	}
	return false
}

// run reads by a piece of a rule.
func (m *model) run(r *rule) {
	switch r.op {
	case "seq":
		for _, k := range r.kids {
			m.run(k)
		}
	case "alt":
		for i, k := range r.kids {
			if m.starts(k) || i == len(r.kids)-1 {
				m.run(k)
				return
			}
		}
	case "star":
		for m.starts(r.kids[0]) {
			m.run(r.kids[0])
		}
	case "opt":
		if m.starts(r.kids[0]) {
			m.run(r.kids[0])
		}
	case "refuse":
		if refuses(r, m.token()) {
			m.throw(api.ErrWord)
		}
	case "quote":
		if !m.starts(r) {
			m.wrong()
		}
		m.mark(r.text)
		m.eat("")
	case "call":
		m.call(r)
	}
}

// call reads by a rule of that name, or one token.
func (m *model) call(r *rule) {
	if body := m.rules[r.text]; body != nil {
		if strings.Contains(declaring, " "+r.text+" ") {
			m.begins = append(m.begins, m.at)
		}
		first := m.at
		p := part{kind: r.text}
		m.stack = append(m.stack, &p)
		m.run(body)
		m.stack = m.stack[:len(m.stack)-1]
		around := m.stack[len(m.stack)-1]
		if (r.text == "type" || r.text == "names" && around.kind == "package") && len(p.flat()) > 255 {
			panic(modelFault{m.at - 1, true, api.Fault{Err: api.ErrLong, At: m.tokens[first].At}})
		}
		around.parts = append(around.parts, p)
		return
	}
	if !m.starts(r) {
		m.wrong()
	}
	switch r.text {
	case "name":
		m.nameHere(m.token().Text)
	case "string":
		m.stringHere(m.stack[len(m.stack)-1].kind)
	case "number":
		m.numberHere()
	case "end":
		return
	}
	m.eat(r.text)
}

// eat goes on behind a token.
func (m *model) eat(kind string) {
	p := m.stack[len(m.stack)-1]
	p.parts = append(p.parts, part{kind: kind, text: m.token().Text})
	m.at++
}

// mark looks at what the grammar does not say of words and signs.
func (m *model) mark(text string) {
	in := m.stack[len(m.stack)-1]
	switch {
	case text == "-" && in.kind == "row" && m.owner() == "message":
		m.throw(api.ErrSyntax)
	case text == "}" && in.kind == "oneof" && len(in.all("choice")) == 0, text == "}" && in.kind == "enum" && len(in.all("value")) == 0:
		m.throw(api.ErrSyntax)
	case text == "package" && m.named:
		m.throw(api.ErrSyntax)
	case text == "package":
		m.named = true
	case text == "message":
		open := 0
		for _, p := range m.stack {
			if p.kind == "message" {
				open++
			}
		}
		if open > 32 { // itself too
			m.throw(api.ErrNest)
		}
	}
}

// owner tells whether a `reserved` is a message's or an enum's.
func (m *model) owner() string {
	for i := len(m.stack) - 1; ; i-- {
		if k := m.stack[i].kind; k == "message" || k == "enum" {
			return k
		}
	}
}

func (m *model) nameHere(s string) {
	if len(s) > 255 {
		m.throw(api.ErrLong)
	}
	if !nameForm.MatchString(s) {
		m.throw(api.ErrSyntax)
	}
}

var nameForm = regexp.MustCompile(`^[A-Za-z_][A-Za-z_0-9]*$`)

func (m *model) stringHere(in string) {
	s, e := scan.Unquote(m.token().Text)
	if e != api.OK {
		m.throw(e)
	}
	switch {
	case in == "file" && s != "proto3":
		m.throw(api.ErrSyntax)
	case in == "import" && len(s) > 255:
		m.throw(api.ErrLong)
	case in == "import" && s == "":
		m.throw(api.ErrSyntax)
	case in == "gone":
		m.nameHere(s)
	}
}

func (m *model) numberHere() {
	n, e := scan.Number(m.token().Text)
	if e != api.OK {
		m.throw(e)
	}
	in := m.stack[len(m.stack)-1]
	most := 2147483647
	if quoted(m.tokens[m.at-1], "-") {
		most++
	}
	switch first := in.all("number"); {
	case n > most:
		m.throw(api.ErrRange)
	case in.kind == "row" && m.owner() == "message" && (n == 0 || n > 536870911):
		m.throw(api.ErrRange)
	case in.kind == "row" && len(first) > 0:
		if quoted(m.tokens[m.at-1], "-") {
			n = -n
		}
		if n < in.numbers()[0] {
			m.throw(api.ErrRange)
		}
	}
}

// all are the parts of that kind that stand in p itself.
func (p part) all(kind string) []part {
	var l []part
	for _, q := range p.parts {
		if q.kind == kind {
			l = append(l, q)
		}
	}
	return l
}

// flat is the text of all tokens.
func (p part) flat() string {
	s := p.text
	for _, q := range p.parts {
		s += q.flat()
	}
	return s
}

// has says whether what stood in quotes is there.
func (p part) has(text string) bool {
	for _, q := range p.all("") {
		if q.text == text {
			return true
		}
	}
	return false
}

// numbers are the numbers that stand in p, with their signs.
func (p part) numbers() []int {
	var l []int
	sign := 1
	for _, q := range p.parts {
		switch {
		case q.kind == "number":
			n, _ := scan.Number(q.text)
			l = append(l, sign*n)
			sign = 1
		case q.kind == "" && q.text == "-":
			sign = -1
		}
	}
	return l
}

// name is the name that stands in p.
func (p part) name() string { return p.all("name")[0].text }

// meant is what a string means.
func meant(p part) string {
	s, _ := scan.Unquote(p.all("string")[0].text)
	return s
}

// fileOf tells what was declared.
func fileOf(p part) (f api.File) {
	for _, top := range p.all("top") {
		switch d := top.parts[0]; d.kind {
		case "package":
			f.Package = d.all("names")[0].flat()
		case "import":
			f.Imports = append(f.Imports, meant(d))
		case "message":
			f.Messages = append(f.Messages, messageOf(d))
		case "enum":
			f.Enums = append(f.Enums, enumOf(d))
		}
	}
	return f
}

func messageOf(p part) api.MessageDecl {
	m := api.MessageDecl{Name: p.name()}
	for _, member := range p.all("member") {
		switch d := member.parts[0]; d.kind {
		case "message":
			m.Messages = append(m.Messages, messageOf(d))
		case "enum":
			m.Enums = append(m.Enums, enumOf(d))
		case "oneof":
			m.Oneofs = append(m.Oneofs, d.name())
			for _, c := range d.all("choice") {
				m.Fields = append(m.Fields, fieldOf(c, 1, len(m.Oneofs)))
			}
		case "reserved":
			reservedOf(d, 536870911, &m.Reserved, &m.Gone)
		case "field":
			card := 1
			if d.has("optional") {
				card = 2
			} else if d.has("repeated") {
				card = 3
			}
			m.Fields = append(m.Fields, fieldOf(d, card, 0))
		case "map":
			m.Fields = append(m.Fields, fieldOf(d, 4, 0))
		}
	}
	return m
}

func fieldOf(p part, card, oneof int) api.FieldDecl {
	d := api.FieldDecl{Card: card, Name: p.name(), Number: p.numbers()[0], Oneof: oneof}
	types := p.all("type")
	d.Type = types[len(types)-1].flat()
	if card == 4 {
		d.Key = types[0].flat()
	}
	return d
}

func enumOf(p part) api.EnumDecl {
	d := api.EnumDecl{Name: p.name()}
	for _, q := range p.parts {
		switch q.kind {
		case "value":
			d.Values = append(d.Values, api.EnumValue{Name: q.name(), Number: q.numbers()[0]})
		case "reserved":
			reservedOf(q, 2147483647, &d.Reserved, &d.Gone)
		}
	}
	return d
}

func reservedOf(p part, most int, rows *[]api.Range, gone *[]string) {
	for _, q := range p.all("row") {
		l := append(q.numbers(), most)
		if !q.has("to") {
			l[1] = l[0]
		}
		*rows = append(*rows, api.Range{From: l[0], To: l[1]})
	}
	for _, q := range p.all("gone") {
		*gone = append(*gone, meant(q))
	}
}

// maker makes texts by the grammar, right but for what the grammar does not say.
type maker struct {
	r    *rand.Rand
	left int // how many more parts may be made where there may be none
}

func (k *maker) pick(l ...string) string { return l[k.r.Intn(len(l))] }

// made adds to the tokens what a piece of a rule stands for.
func (k *maker) made(r *rule, in string, l []string) []string {
	switch r.op {
	case "seq":
		for _, x := range r.kids {
			l = k.made(x, in, l)
		}
	case "alt":
		l = k.made(r.kids[k.r.Intn(len(r.kids))], in, l)
	case "star", "opt":
		for n := k.r.Intn(map[string]int{"star": 6, "opt": 2}[r.op]); n > 0 && k.left > 0; n-- {
			k.left--
			l = k.made(r.kids[0], in, l)
		}
	case "quote":
		l = append(l, r.text)
	case "call":
		switch r.text {
		case "name":
			l = append(l, k.pick("a", "B", "_", "c9", "int32", "string", "N", "message", "map", "max", "to", "syntax", "group", "option", "reserved", "optional", "weak"))
		case "number":
			l = append(l, k.pick("0", "1", "2", "017", "0x1F", "19000", "536870911", "536870912", "2147483647", "2147483648"))
		case "string":
			l = append(l, k.pick(map[string][]string{"file": {"'proto3'", "\"proto3\"", "'\\x70roto3'"}, "import": {"'x'", "\"a/b.proto\"", "'\\xff'", "'é'"}}[in]...))
		case "gone":
			l = append(l, k.pick("'q'", "\"message\"", "'\\x41'", "'_'"))
		case "end":
		default:
			l = k.made(rules[r.text], r.text, l)
		}
	}
	return l
}

// differs is what a test tells where the two readings differ.
func differs(l []api.Token, f, want api.File, bad, wantBad api.Fault) string {
	texts := make([]string, 0, len(l))
	for _, t := range l {
		texts = append(texts, fmt.Sprintf("%d:%.12q", t.Kind, t.Text))
	}
	return fmt.Sprintf("%.600s: %.300s, %+v, want %.300s, %+v", strings.Join(texts, " "), fmt.Sprintf("%+v", f), bad, fmt.Sprintf("%+v", want), wantBad)
}
