package shell_test

import (
	"fmt"
	"strconv"
	"strings"

	"sigil/api"
	"sigil/bind"
	"sigil/compat"
	"sigil/diff"
	"sigil/digest"
	"sigil/encode"
	"sigil/json"
	"sigil/loose"
	"sigil/path"
	"sigil/project"
	"sigil/registry"
	"sigil/sign"
	"sigil/stream"
	"sigil/strict"
	"sigil/tree"
)

// grown is a tree with what it is of.
type grown struct {
	s   *bind.Schema
	typ string
	v   api.Value
}

// second is another reading of the chapter: one line after the other, over plain maps, all of them weighed anew each time.
type second struct {
	under   map[string][]api.Source
	schemas map[string]*bind.Schema
	trees   map[string]grown
	blobs   map[string][]byte
	proofs  map[string]api.Proof
	edits   map[string][]api.Edit
	reg     *registry.Registry
	table   map[string]row
	refused bool // the line that was answered last made nothing
}

func newSecond() *second {
	x := &second{map[string][]api.Source{}, map[string]*bind.Schema{}, map[string]grown{}, map[string][]byte{}, map[string]api.Proof{}, map[string][]api.Edit{}, nil, map[string]row{}, false}
	x.reg, _, _ = registry.Open(nil)
	for _, r := range rows() {
		x.table[r.name] = r
	}
	return x
}

// has says whether there is a thing of that kind and name.
func (x *second) has(need, name string) bool {
	ok := true
	switch need {
	case "S":
		_, ok = x.schemas[name]
	case "T":
		_, ok = x.trees[name]
	case "B":
		_, ok = x.blobs[name]
	case "P":
		_, ok = x.proofs[name]
	case "E":
		_, ok = x.edits[name]
	}
	return ok
}

// answer is what a line is answered.
func (x *second) answer(line string) string {
	words, e := secondWords(line)
	if e != api.OK {
		return "command"
	}
	if len(words) == 0 {
		return ""
	}
	r, ok := x.table[words[0]]
	if words = words[1:]; !ok || !r.fits(len(words)) {
		return "command"
	}
	for i, w := range words {
		if need := r.need(i); (need == "N" || need == "W" || need == "R") && !nineDigits(w) {
			return "command"
		}
	}
	for i, w := range words {
		if !x.has(r.need(i), w) {
			return "none"
		}
	}
	return x.done(r.name, words)
}

func nineDigits(w string) bool {
	for _, c := range w {
		if c < '0' || c > '9' {
			return false
		}
	}
	return len(w) > 0 && len(w) < 10
}

// count tells the values of a tree and the bytes of its texts.
func count(v api.Value) int {
	n := 1 + len(v.Text)
	for _, in := range v.List {
		n += count(in)
	}
	for _, in := range v.Fields {
		n += count(in.Value)
	}
	return n
}

// overfull says whether the store has more than may be.
func (x *second) overfull() bool {
	weight, bytes := 0, 0
	for _, g := range x.trees {
		weight += count(g.v)
	}
	for _, p := range x.proofs {
		weight += count(p.Value)
	}
	for _, l := range x.edits {
		for _, edit := range l {
			for _, v := range edit.Values {
				weight += count(v)
			}
		}
	}
	for _, b := range x.blobs {
		bytes += len(b)
	}
	return weight > 1<<22 || bytes > 1<<26
}

// into puts a thing into a map; what makes too much is taken away again.
func into[T any](x *second, m map[string]T, name string, thing T, e api.Errno, words ...any) string {
	if e != api.OK {
		return told(e)
	}
	old, ok := m[name]
	m[name] = thing
	if !x.overfull() {
		return told(api.OK, words...)
	}
	if ok {
		m[name] = old
	} else {
		delete(m, name)
	}
	return "long"
}

// told is an answer's words.
func told(e api.Errno, words ...any) string {
	out := e.Error()
	for _, w := range words {
		out += " " + fmt.Sprint(w)
	}
	return out
}

// orElse is the first answer, but of an error the word alone.
func orElse(e api.Errno, words ...any) string {
	if e != api.OK {
		return e.Error()
	}
	return told(api.OK, words...)
}

func whole(w string) int {
	n, _ := strconv.Atoi(w)
	return n
}

// done does a command of which all words are right.
func (x *second) done(name string, w []string) string {
	switch name {
	case "source", "load", "texts", "types", "mark", "compat", "changes":
		return x.ofSchemas(name, w)
	case "register", "try", "rule", "drop", "list", "find", "read", "log", "reopen":
		return x.ofRegistry(name, w)
	case "hex", "bytes", "dump", "strict", "loose", "canon", "unpack", "mend", "pack":
		return x.ofBlobs(name, w)
	case "json":
		v, bad := json.New(x.schemas[w[1]]).Parse(w[2], w[3])
		if bad.Err != api.OK {
			return told(bad.Err, bad.At)
		}
		return into(x, x.trees, w[0], grown{x.schemas[w[1]], w[2], v}, api.OK)
	case "keep", "strip":
		g, cut := x.trees[w[0]], path.Keep
		if name == "strip" {
			cut = path.Strip
		}
		v, e := cut(g.s, g.typ, g.v, w[2:])
		return into(x, x.trees, w[1], grown{g.s, g.typ, v}, e)
	case "verify":
		root, e := digest.Unhex(w[2])
		if e != api.OK {
			return told(e)
		}
		return told(sign.Verify(x.schemas[w[0]], w[1], root, x.proofs[w[3]]))
	}
	return x.ofTree(name, x.trees[w[0]], w)
}

func (x *second) ofSchemas(name string, w []string) string {
	s := x.schemas[w[0]]
	switch name {
	case "source":
		if len(x.under[w[0]]) == 16 {
			return "long"
		}
		x.under[w[0]] = append(x.under[w[0]], api.Source{Name: w[1], Text: w[2]})
		return told(api.OK, len(x.under[w[0]]))
	case "load":
		s, bad := bind.Load(x.under[w[0]])
		delete(x.under, w[0])
		if bad.Err != api.OK {
			return told(bad.Err, bad.File, bad.At, word(bad.Name))
		}
		x.schemas[w[0]] = s
		return told(api.OK, len(s.Messages()), len(s.Enums()))
	case "texts":
		out := "ok"
		for _, f := range s.Texts() {
			out += " " + word(f.Name) + " " + word(f.Text)
		}
		return out
	case "types":
		out := "ok"
		for _, n := range s.Messages() {
			out += " " + word(n)
		}
		return out
	case "mark":
		return told(api.OK, digest.Hex(sign.Schema(s)))
	case "changes":
		out := "ok"
		for _, c := range diff.Schemas(s, x.schemas[w[1]]) {
			out += " " + word(diff.Say(c))
		}
		return out
	}
	b, e := compat.Check(s, w[1], x.schemas[w[2]], w[3])
	if e != api.OK || b.Rule == 0 {
		return told(e)
	}
	return fmt.Sprint("break ", b.Rule, " ", strings.Trim(strings.ReplaceAll(fmt.Sprint(b.Path), " ", "."), "[]"))
}

func (x *second) ofBlobs(name string, w []string) string {
	b := x.blobs[w[0]]
	switch name {
	case "hex":
		b, e := digest.Unhex(w[1])
		return into(x, x.blobs, w[0], b, e, len(b))
	case "bytes":
		return into(x, x.blobs, w[0], []byte(w[1]), api.OK, len(w[1]))
	case "dump":
		return strings.TrimRight("ok "+digest.Hex(b), " ")
	case "strict", "loose":
		read := strict.Decode
		if name == "loose" {
			read = loose.Decode
		}
		v, at, e := read(x.schemas[w[1]], w[2], b)
		if e != api.OK {
			return told(e, at)
		}
		return into(x, x.trees, w[3], grown{x.schemas[w[1]], w[2], v}, api.OK)
	case "canon":
		c, at, e := loose.Canonical(x.schemas[w[1]], w[2], b)
		if e != api.OK {
			return told(e, at)
		}
		return into(x, x.blobs, w[3], c, api.OK, len(c))
	case "mend":
		c, hurts, e := stream.Mend(b)
		return into(x, x.blobs, w[1], c, e, len(c), len(hurts))
	case "unpack":
		return x.unpack(b, w[1])
	}
	h := api.Head{Sources: x.schemas[w[1]].Texts(), Type: w[2], Per: whole(w[3])}
	var l []api.Value
	for _, n := range w[4:] {
		l = append(l, x.trees[n].v)
	}
	b, at, e := stream.Pack(h, l)
	if e != api.OK {
		return told(e, at)
	}
	return into(x, x.blobs, w[0], b, api.OK, len(b))
}

// unpack makes all trees of a stream, or none.
func (x *second) unpack(b []byte, name string) string {
	l, hurts, e := stream.Read(b)
	if e != api.OK {
		return told(e)
	}
	h, _, _ := stream.Look(b)
	s, bad := bind.Load(h.Sources)
	if bad.Err != api.OK {
		return told(bad.Err)
	}
	before := map[string]grown{}
	for n, g := range x.trees {
		before[n] = g
	}
	for i, v := range l {
		x.trees[fmt.Sprintf("%s.%d", name, i)] = grown{s, h.Type, v}
	}
	if x.overfull() {
		x.trees = before
		return "long"
	}
	return told(api.OK, len(l), len(hurts))
}

func (x *second) ofRegistry(name string, w []string) string {
	switch name {
	case "register":
		n, e := x.reg.Register(w[0], x.schemas[w[1]].Texts(), w[2])
		return orElse(e, n)
	case "try":
		b, e := x.reg.Try(w[0], x.schemas[w[1]].Texts(), w[2])
		return orElse(e, b.Rule)
	case "rule":
		return told(x.reg.Rule(w[0], whole(w[1])))
	case "drop":
		return told(x.reg.Drop(w[0], whole(w[1])))
	case "list":
		out := "ok"
		for _, s := range x.reg.List() {
			out += fmt.Sprintf(" %s %d %d", word(s.Name), s.Rule, len(s.Versions))
		}
		return out
	case "find":
		b, e := digest.Unhex(w[0])
		if e != api.OK {
			return told(e)
		}
		l, e := x.reg.Find(b)
		out := e.Error()
		for _, p := range l {
			out += fmt.Sprintf(" %s %d", word(p.Subject), p.Version)
		}
		return out
	case "read":
		v, e := x.reg.Read(w[0], whole(w[1]), whole(w[2]), x.blobs[w[3]])
		by, _ := x.reg.Get(w[0], whole(w[2]))
		s, _ := bind.Load(by.Files)
		return into(x, x.trees, w[4], grown{s, by.Type, v}, e)
	case "log":
		b := x.reg.Log()
		return into(x, x.blobs, w[0], b, api.OK, len(b))
	}
	r, n, e := registry.Open(x.blobs[w[0]])
	if e == api.OK {
		x.reg = r
	}
	return orElse(e, n)
}

func (x *second) ofTree(name string, g grown, w []string) string {
	switch name {
	case "show":
		text, e := json.New(g.s).Print(g.typ, g.v)
		return orElse(e, word(text))
	case "encode":
		b, e := encode.New(g.s).Encode(g.typ, g.v)
		return into(x, x.blobs, w[1], b, e, len(b))
	case "same":
		return "ok " + map[bool]string{true: "yes", false: "no"}[tree.Equal(g.v, x.trees[w[1]].v)]
	case "merge":
		v, _, e := loose.Merge(g.s, g.typ, g.v, x.trees[w[1]].v)
		return into(x, x.trees, w[2], grown{g.s, g.typ, v}, e)
	case "get":
		return gotten(g, w[1])
	case "clear":
		v, e := path.Clear(g.s, g.typ, g.v, w[1])
		return into(x, x.trees, w[2], grown{g.s, g.typ, v}, e)
	case "leaves":
		l, e := path.Leaves(g.s, g.typ, g.v)
		out := e.Error()
		for _, p := range l {
			out += " " + word(p)
		}
		return out
	case "project":
		plan, e := project.New(g.s, g.typ, x.schemas[w[1]], w[2])
		if e != api.OK {
			return told(e)
		}
		v, e := plan.Do(g.v)
		return into(x, x.trees, w[3], grown{x.schemas[w[1]], w[2], v}, e)
	case "sign":
		d, e := sign.Message(g.s, g.typ, g.v)
		return orElse(e, digest.Hex(d))
	case "commit":
		d, e := sign.Commit(g.s, g.typ, g.v)
		return orElse(e, digest.Hex(d))
	case "open":
		p, e := sign.Open(g.s, g.typ, g.v, w[1])
		return into(x, x.proofs, w[2], p, e, len(p.Rungs))
	case "diff":
		l, e := diff.Trees(g.s, g.typ, g.v, x.trees[w[1]].v)
		return into(x, x.edits, w[2], l, e, len(l))
	case "apply":
		v, e := diff.Apply(g.s, g.typ, g.v, x.edits[w[1]])
		return into(x, x.trees, w[2], grown{g.s, g.typ, v}, e)
	}
	l, e := diff.Back(g.s, g.typ, g.v, x.edits[w[1]])
	return into(x, x.edits, w[2], l, e, len(l))
}

// gotten is what get answers: a message is shown by the type of the last field on the way to it.
func gotten(g grown, p string) string {
	v, ok, e := path.Get(g.s, g.typ, g.v, p)
	if e != api.OK {
		return told(e)
	}
	if !ok {
		return "ok absent"
	}
	switch v.Kind {
	case api.VNum:
		return told(api.OK, "num", v.Num)
	case api.VText:
		return told(api.OK, "text", word(v.Text))
	case api.VList:
		return told(api.OK, "list", len(v.List))
	case api.VMap:
		return told(api.OK, "map", len(v.List))
	}
	typ := g.typ
	steps, _ := path.Parse(g.s, g.typ, p)
	for _, st := range steps {
		m, _ := g.s.Message(typ)
		for _, f := range m.Fields {
			if st.Kind == api.SField && f.Number == st.Number {
				typ = f.Of
				break
			}
		}
	}
	text, e := json.New(g.s).Print(typ, v)
	return orElse(e, "message", word(text))
}
