package json

import (
	"cmp"
	"slices"
	"strings"

	"sigil/api"
)

// reader reads values of types from a text that has no fault as JSON.
type reader struct {
	scanner
	level  int // how many messages it is in
	values int // how many fields, values of lists and pairs of maps are there in the tree so far
}

func newReader(text string) *reader {
	return &reader{scanner: scanner{text: text, tell: pass}}
}

// keeps counts a field, a list's value or a map's pair that is there, and says whether it is to be kept. A tree has at least as many canonical bytes as these are: so when they are too many it is too large, and only faults are looked for.
func (r *reader) keeps() bool {
	r.values++
	return !r.full()
}

// full says whether the tree is too large since its values are too many.
func (r *reader) full() bool { return r.values > api.MaxMessage }

// kind tells by a byte what kind of value stands here: its first one, 0 for all numbers.
func (r *reader) kind() byte {
	c := r.peek()
	if c == '-' || c >= '0' && c <= '9' {
		return '0'
	}
	return c
}

// shape refuses a value that is of none of some kinds.
func (r *reader) shape(kinds string) {
	if strings.IndexByte(kinds, r.kind()) < 0 {
		refuse(r.at, api.ErrShape)
	}
}

// said reads a token that must be of one of some kinds, and tells where it stands and what it says: what a string means, any other as it is.
func (r *reader) said(kinds string) (int, string) {
	r.shape(kinds)
	at := r.at
	token := r.token()
	if token[0] == '"' {
		return at, unquoted(token)
	}
	return at, token
}

// name reads the name of a member, up to its value.
func (r *reader) name() (int, string) {
	at, name := r.said(`"`)
	r.must(':')
	return at, name
}

// null reads the word null, and says whether it is there.
func (r *reader) null() bool {
	if r.kind() != 'n' {
		return false
	}
	r.token()
	return true
}

// gathered is what was read of a message so far.
type gathered struct {
	met    []int // the numbers of the fields that members were of
	oneofs []int // the oneofs that have a member
	fields []api.Entry
}

// message reads a message of the plan's type.
func (r *reader) message(p *plan) api.Value {
	r.shape("{")
	if r.level == api.MaxDepth {
		refuse(r.at, api.ErrDepth)
	}
	r.level++
	var g gathered
	r.row('{', '}', func() { r.member(p, &g) })
	r.level--
	slices.SortFunc(g.fields, func(a, b api.Entry) int { return cmp.Compare(a.Number, b.Number) })
	return api.Value{Kind: api.VMessage, Fields: g.fields}
}

// member reads a member of a message.
func (r *reader) member(p *plan, g *gathered) {
	at, name := r.name()
	f, ok := p.named[name]
	if !ok || slices.Contains(g.met, f.number) {
		refuse(at, api.ErrMember)
	}
	g.met = append(g.met, f.number)
	if r.null() {
		return
	}
	if f.oneof > 0 {
		if slices.Contains(g.oneofs, f.oneof) {
			refuse(at, api.ErrJsonOneof)
		}
		g.oneofs = append(g.oneofs, f.oneof)
	}
	v := f.read(r)
	if f.shows(&v) && r.keeps() {
		g.fields = append(g.fields, api.Entry{Number: f.number, Value: v})
	}
}
