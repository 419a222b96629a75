package sign_test

import (
	"bytes"
	"crypto/sha256"
	"encoding/binary"
	"slices"
	"strings"
	"sync"

	"sigil/api"
	"sigil/bind"
	"sigil/encode"
	"sigil/parse"
	"sigil/path"
	"sigil/print"
	"sigil/tree"
)

// The second reading: the chapter's words once more, over the library's SHA-256, plain recursion and the texts of a schema.

func sum(pieces ...[]byte) []byte {
	d := sha256.Sum256(slices.Concat(pieces...))
	return d[:]
}

func frame(parts ...[]byte) []byte {
	b := binary.LittleEndian.AppendUint32(nil, uint32(len(parts)))
	for _, p := range parts {
		b = binary.LittleEndian.AppendUint32(b, uint32(len(p)))
		b = append(b, p...)
	}
	return b
}

// domain is D of the chapter.
func domain(name string, parts ...[]byte) []byte {
	return sum(frame(append([][]byte{[]byte(name)}, parts...)...))
}

func n8(v int) []byte { return binary.LittleEndian.AppendUint64(nil, uint64(v)) }

// cut is the greatest power of two below n.
func cut(n int) int {
	k := 1
	for 2*k < n {
		k *= 2
	}
	return k
}

func root(leaves ...[]byte) []byte {
	switch len(leaves) {
	case 0:
		return sum()
	case 1:
		return sum([]byte{0}, leaves[0])
	}
	k := cut(len(leaves))
	return sum([]byte{1}, root(leaves[:k]...), root(leaves[k:]...))
}

// beside is the way of a leaf.
func beside(leaves [][]byte, at int) [][]byte {
	if len(leaves) == 1 {
		return nil
	}
	if k := cut(len(leaves)); at < k {
		return append(beside(leaves[:k], at), root(leaves[k:]...))
	} else {
		return append(beside(leaves[k:], at-k), root(leaves[:k]...))
	}
}

// rebuilt is the root to which a leaf comes, and whether what stands beside it is right in its form.
func rebuilt(leaf []byte, at, of int, way [][]byte) ([]byte, bool) {
	if of < 1 || of > api.MaxLeaves || at < 0 || at >= of {
		return nil, false
	}
	if of == 1 {
		return sum([]byte{0}, leaf), len(way) == 0
	}
	if len(way) == 0 || len(way[len(way)-1]) != 32 {
		return nil, false
	}
	last, rest := way[len(way)-1], way[:len(way)-1]
	if k := cut(of); at < k {
		d, ok := rebuilt(leaf, at, k, rest)
		return sum([]byte{1}, d, last), ok
	} else {
		d, ok := rebuilt(leaf, at-k, of-k, rest)
		return sum([]byte{1}, last, d), ok
	}
}

func secondSchema(s *bind.Schema) []byte {
	var parts [][]byte
	for _, source := range s.Texts() {
		parts = append(parts, []byte(source.Name), []byte(source.Text))
	}
	return domain("sigil.schema", parts...)
}

// alones are the texts alone that secondAlones told, by schema: a schema never changes.
var alones sync.Map

// secondAlones are the texts alone of all messages and enums: what the canonical texts declare, without what is declared in it.
func secondAlones(s *bind.Schema) map[string]string {
	if l, ok := alones.Load(s); ok {
		return l.(map[string]string)
	}
	out := map[string]string{}
	var look func(scope string, messages []api.MessageDecl, enums []api.EnumDecl)
	look = func(scope string, messages []api.MessageDecl, enums []api.EnumDecl) {
		for _, m := range messages {
			full := scope + m.Name
			look(full+".", m.Messages, m.Enums)
			m.Messages, m.Enums = nil, nil
			out[full], _ = print.Text(api.File{Messages: []api.MessageDecl{m}})
		}
		for _, d := range enums {
			out[scope+d.Name], _ = print.Text(api.File{Enums: []api.EnumDecl{d}})
		}
	}
	for _, source := range s.Texts() {
		f, _ := parse.Parse(source.Text)
		scope := f.Package
		if scope != "" {
			scope += "."
		}
		look(scope, f.Messages, f.Enums)
	}
	alones.Store(s, out)
	return out
}

func secondType(s *bind.Schema, name string) []byte {
	parts := [][]byte{[]byte(name)}
	l, _ := s.Reach(name)
	for _, full := range l {
		parts = append(parts, []byte(full), []byte(secondAlones(s)[full]))
	}
	return domain("sigil.type", parts...)
}

func secondPreimage(s *bind.Schema, name string, m api.Value) []byte {
	b, _ := encode.New(s).Encode(name, m)
	return frame([]byte("sigil.message"), secondSchema(s), []byte(name), b)
}

// whole is the field of a whole message of a type.
func whole(name string) api.Field {
	return api.Field{Card: api.CSingle, Type: api.TMessage, Of: name}
}

// leavesOf are the leaves of a message, a list or a map that a field has.
func leavesOf(s *bind.Schema, f api.Field, v api.Value) [][]byte {
	var leaves [][]byte
	in := f
	in.Card = api.CSingle
	for _, e := range v.Fields {
		g, _ := s.Field(f.Of, e.Number)
		leaves = append(leaves, domain("sigil.field", n8(e.Number), secondDigest(s, g, e.Value)))
	}
	for _, x := range v.List {
		if f.Card == api.CMap {
			leaves = append(leaves, domain("sigil.pair", secondDigest(s, api.Field{Card: api.CSingle, Type: f.Key}, x.List[0]), secondDigest(s, in, x.List[1])))
		} else {
			leaves = append(leaves, secondDigest(s, in, x))
		}
	}
	return leaves
}

// secondDigest is the digest of a value that a field has.
func secondDigest(s *bind.Schema, f api.Field, v api.Value) []byte {
	switch v.Kind {
	case api.VNum:
		return domain("sigil.leaf", n8(f.Type), n8(v.Num))
	case api.VText:
		return domain("sigil.leaf", n8(f.Type), []byte(v.Text))
	}
	leaves := leavesOf(s, f, v)
	return secondOver(f, len(leaves), root(leaves...))
}

// secondOver is the digest of a message, a list or a map.
func secondOver(f api.Field, count int, root []byte) []byte {
	switch f.Card {
	case api.CRepeated:
		return domain("sigil.list", n8(count), root)
	case api.CMap:
		return domain("sigil.map", n8(count), root)
	}
	return domain("sigil.node", []byte(f.Of), n8(count), root)
}

func secondCommit(s *bind.Schema, name string, m api.Value) []byte {
	return domain("sigil.commit", secondType(s, name), secondDigest(s, whole(name), m))
}

// secondOpen is the proof of what stands at a path that is right.
func secondOpen(s *bind.Schema, name string, m api.Value, text string) api.Proof {
	steps, _ := path.Parse(s, name, text)
	var p api.Proof
	p.Path, _ = path.Print(s, name, steps)
	f, v := whole(name), m
	for _, st := range steps {
		leaves := leavesOf(s, f, v)
		place := -1
		var in api.Value
		switch st.Kind {
		case api.SField:
			place = slices.IndexFunc(v.Fields, func(e api.Entry) bool { return e.Number == st.Number })
			in = v.Fields[place].Value
		case api.SIndex:
			place = st.Number
			in = v.List[place]
		case api.SKey:
			place = slices.IndexFunc(v.List, func(x api.Value) bool { return same(x.List[0], st.Key) })
			in = v.List[place].List[1]
		}
		p.Rungs = append(p.Rungs, api.Rung{At: place, Of: len(leaves), Beside: beside(leaves, place)})
		f, v = behind(s, f, st), in
	}
	p.Value = v
	return p
}

// behind is the field of what stands behind a step.
func behind(s *bind.Schema, f api.Field, st api.Step) api.Field {
	if st.Kind == api.SField {
		f, _ = s.Field(f.Of, st.Number)
		return f
	}
	f.Card = api.CSingle
	return f
}

// secondVerify is what P1608 says, but for P6, of proofs that are not too large: whether a value may stand somewhere says a tree with nothing else in it.
func secondVerify(s *bind.Schema, name string, want []byte, p api.Proof) api.Errno {
	if _, e := s.Message(name); e != api.OK {
		return e
	}
	if len(want) != 32 {
		return api.ErrProof
	}
	if len(p.Path) > api.MaxPath || len(p.Rungs) > api.MaxPath {
		return api.ErrLong
	}
	steps, e := path.Parse(s, name, p.Path)
	if e != api.OK {
		return e
	}
	if len(p.Rungs) != len(steps) {
		return api.ErrProof
	}
	fields := []api.Field{whole(name)}
	for i, st := range steps {
		fields = append(fields, behind(s, fields[i], st))
	}
	lone := p.Value
	for _, st := range slices.Backward(steps) {
		lone = around(st, lone)
	}
	if _, e := tree.Normal(s, name, lone); e != api.OK {
		return e
	}
	if tooLarge(p.Value) {
		return api.ErrSize
	}
	d := secondDigest(s, fields[len(steps)], p.Value)
	none := false
	for i, st := range slices.Backward(steps) {
		r, f := p.Rungs[i], fields[i]
		leaf := d
		switch st.Kind {
		case api.SField:
			leaf = domain("sigil.field", n8(st.Number), d)
		case api.SIndex:
			none = none || r.At != st.Number
		case api.SKey:
			leaf = domain("sigil.pair", secondDigest(s, api.Field{Type: f.Key}, st.Key), d)
		}
		top, ok := rebuilt(leaf, r.At, r.Of, r.Beside)
		none = none || !ok
		d = secondOver(f, r.Of, top)
	}
	switch {
	case none:
		return api.ErrProof
	case !bytes.Equal(domain("sigil.commit", secondType(s, name), d), want):
		return api.ErrForged
	}
	return api.OK
}

// around is what a step goes from, with a value at the step and nothing else.
func around(st api.Step, v api.Value) api.Value {
	switch st.Kind {
	case api.SField:
		return one(st.Number, v)
	case api.SIndex:
		return list(v)
	}
	return dict(pair(st.Key, v))
}

// tooLarge says whether something in a tree is more than is committed to.
func tooLarge(v api.Value) bool {
	return len(v.List) > api.MaxLeaves || len(v.Text) > api.MaxMessage || slices.ContainsFunc(v.List, tooLarge) ||
		slices.ContainsFunc(v.Fields, func(e api.Entry) bool { return tooLarge(e.Value) })
}

// pathsOf are the paths of all that stands in a tree, as Print writes them; those that are too long are left out.
func pathsOf(s *bind.Schema, name string, m api.Value) []string {
	var l []string
	var look func(f api.Field, v api.Value, steps []api.Step)
	look = func(f api.Field, v api.Value, steps []api.Step) {
		p, e := path.Print(s, name, steps)
		if e == api.ErrLong {
			return
		}
		l = append(l, p)
		under := func(st api.Step, in api.Value) { look(behind(s, f, st), in, append(slices.Clone(steps), st)) }
		for _, e := range v.Fields {
			under(api.Step{Kind: api.SField, Number: e.Number}, e.Value)
		}
		for i, in := range v.List {
			if f.Card == api.CMap {
				under(api.Step{Kind: api.SKey, Key: in.List[0]}, in.List[1])
			} else {
				under(api.Step{Kind: api.SIndex, Number: i}, in)
			}
		}
	}
	look(whole(name), m, nil)
	return l
}

// lines joins lines, each with its end.
func lines(l ...string) string { return strings.Join(l, "\n") + "\n" }
