package shell_test

import (
	"fmt"
	"slices"
	"strings"
	"testing"

	"sigil/api"
	"sigil/digest"
	"sigil/encode"
	"sigil/sign"
	"sigil/stream"
)

func TestBytes(t *testing.T) { // P2005: hex, bytes, dump: what they take and tell
	all := ""
	for c := range 256 {
		all += string([]byte{byte(c)})
	}
	plays(t, `bytes b ""`, "ok 0", "dump b", "ok", `hex b ""`, "ok 0", "dump b", "ok", "hex b 000fff", "ok 3", "dump b", "ok 000fff", "bytes c abc", "ok 3", "dump c", "ok 616263", "bytes b "+word(all), "ok 256", "dump b", "ok "+digest.Hex([]byte(all)), "hex b 0", "hex", "hex b 0F", "hex", "hex b 0g", "hex", "hex b \"00 \"", "hex", "dump b", "ok "+digest.Hex([]byte(all)), "hex d 0", "hex", "dump d", "none", "hex b "+repeated("ab", 3000), "ok 3000", "dump b", "ok "+repeated("ab", 3000), `bytes b "a\nb\x00"`, "ok 4", "dump b", "ok 610a6200")
}

func TestEncode(t *testing.T) { // P2005: encode: the canonical bytes, and how many they are
	ahead := trees("t", rich, "n", "{}", "d", deep(64))
	s := schema(t, small)
	b, e := encode.New(s).Encode("p.M", treeOf(t, s, "p.M", rich))
	if e != api.OK {
		t.Fatal(e)
	}
	playsBehind(t, ahead, "encode t b", fmt.Sprint("ok ", len(b)), "dump b", "ok "+digest.Hex(b), "encode n b", "ok 0", "dump b", "ok", "encode d b", "ok 126", "strict b s p.M u", "ok", "same d u", "ok yes")
}

func TestStrictAndLoose(t *testing.T) { // P2005: the tree, or the error's word and the place
	ahead := trees("t", `{"a":1}`)
	for _, c := range []struct{ bytes, strict, loose string }{
		{"", "ok", "ok"}, {"089601", "ok", "ok"}, {"08968100", "longer 1", "ok"}, {"0800", "zero 1", "ok"}, {"1200", "zero 1", "ok"}, {"1a00", "empty 1", "ok"}, {"1802", "wire 0", "ok"}, {"7801", "stranger 0", "ok"}, {"28000801", "order 2", "ok"}, {"22051801", "ends 1", "ends 1"}, {"08", "ends 1", "ends 1"}, {"00", "number 0", "number 0"}, {"0e", "kind 0", "kind 0"}, {"0c", "wire 0", "group 0"}, {"7c", "stranger 0", "group 0"}, {"1201ff", "utf8 2", "utf8 2"}, {"35010000003a00", "both 5", "ok"}, {"2200", "pair 2", "ok"}, {"08ffffffffffffffffff02", "over 1", "over 1"}, {"088080808010", "form 1", "ok"},
	} {
		n := len(c.bytes) / 2
		for name, want := range map[string]string{"strict": c.strict, "loose": c.loose} {
			pairs := slices.Concat(ahead, []string{line("hex", "b", c.bytes), fmt.Sprint("ok ", n), name + " b s p.M t", want, name + " b s p.M u", want})
			if want == "ok" {
				plays(t, append(pairs, "same t u", "ok yes")...)
			} else {
				// What is refused makes nothing.
				plays(t, append(pairs, "show u", "none", "get t a", "ok num 1")...)
			}
		}
	}
	playsBehind(t, ahead, "hex b 0802", "ok 2", "strict b s p.N u", "name 0", "loose b s p.N u", "name 0", `strict b s "" u`, "name 0", "strict b s "+repeated("n", 256)+" u", "long 0", "loose b s "+repeated("n", 256)+" u", "long 0", "show u", "none", "strict b s p.M t", "ok", "get t a", "ok num 2", `bytes b "\n"`, "ok 1", "strict b s p.M t", "wire 0", `bytes b "\x12\x02a"`, "ok 3", "loose b s p.M t", "ends 1", "get t a", "ok num 2")
	// Messages of MaxMessage bytes and more.
	text := proto + "message L { repeated bytes l = 1; }"
	large := slices.Concat(loaded("s", text), []string{line("json", "t", "s", "L", `{"l":["`+repeated("AAAA", 10921)+`AA=="]}`), "ok"})
	for range 4 {
		large = append(large, "merge t t t", "ok")
	}
	// Of 32768 bytes each value has four for its tag and its length.
	playsBehind(t, large, "encode t b", fmt.Sprint("ok ", 16*32768), "merge t t t", "ok", "encode t b", fmt.Sprint("ok ", 1<<20), "strict b s L u", "ok", "same t u", "ok yes", "loose b s L u", "ok", "same t u", "ok yes", "merge t t v", "size", "pack f s L 1 t", fmt.Sprint("ok ", 1<<20+headLen(t, text, "L")+36+3), "strict f s L u", "long 0", "loose f s L u", "long 0", "canon f s L u", "long 0")
}

// headLen is how many bytes the head of a stream of that schema and type has.
func headLen(t *testing.T, text, name string) int {
	t.Helper()
	b, _, e := stream.Pack(api.Head{Sources: schema(t, text).Texts(), Type: name, Per: 1}, nil)
	if e != api.OK {
		t.Fatal(e)
	}
	return len(b)
}

func TestCanon(t *testing.T) { // P2005: canon: the canonical bytes of what loose reads
	playsBehind(t, loaded("s", small),
		"hex b 78012200", "ok 4", "canon b s p.M c", "ok 6", "dump c", "ok 22040a001200", "canon c s p.M c", "ok 6", "dump c", "ok 22040a001200", "hex b 0805080700", "ok 5", "canon b s p.M c", "number 4", "dump c", "ok 22040a001200", "canon b s p.M d", "number 4", "dump d", "none", "hex b 08050800", "ok 4", "canon b s p.M b", "ok 0", "dump b", "ok", "canon b s p.N b", "name 0", "canon b s "+repeated("n", 256)+" b", "long 0",
	)
}

func TestSignAndCommit(t *testing.T) { // P2005: sign and commit: the digests of the tree by its schema and type
	s := schema(t, small)
	v := treeOf(t, s, "p.M", rich)
	m, e := sign.Message(s, "p.M", v)
	c, f := sign.Commit(s, "p.M", v)
	if e != api.OK || f != api.OK {
		t.Fatal(e, f)
	}
	playsBehind(t, slices.Concat(trees("t", rich), loaded("q", wider)), "sign t", "ok "+digest.Hex(m), "commit t", "ok "+digest.Hex(c), "load s", "ok 0 0", "sign t", "ok "+digest.Hex(m), "project t q p.M u", "ok")
	// More than MaxLeaves values.
	pairs := slices.Concat(loaded("s", proto+"message L { repeated bool l = 1; }"), []string{line("json", "t", "s", "L", `{"l":[`+repeated("true,", 4095)+`true]}`), "ok", line("json", "o", "s", "L", `{"l":[true]}`), "ok"})
	for range 4 {
		pairs = append(pairs, "merge t t t", "ok")
	}
	l := answers(t, slices.Concat(first(pairs), []string{"commit t", "sign t", "open t l[65535] p", "merge t o u", "commit u", "sign u", "open u l[0] p", `open u "" q`})...)
	l = l[len(l)-8:]
	if len(l[0]) != 67 || len(l[1]) != 67 || l[2] != "ok 2" || l[3] != "ok" || l[4] != "size" || len(l[5]) != 67 || l[6] != "size" || l[7] != "size" {
		t.Errorf("P2005: %q", l)
	}
}

// first are the lines of lines with their answers.
func first(pairs []string) []string {
	lines, _ := halves(pairs)
	return lines
}

func TestProofs(t *testing.T) { // P2005: open and verify: rungs, refusals, roots of other trees
	s := schema(t, small)
	root := func(text string) string {
		d, e := sign.Commit(s, "p.M", treeOf(t, s, "p.M", text))
		if e != api.OK {
			t.Fatal(e)
		}
		return digest.Hex(d)
	}
	of, other := root(rich), root(`{"a":5}`)
	ahead := slices.Concat(trees("t", rich, "u", `{"a":5}`), loaded("q", wider))
	for path, rungs := range map[string]int{"": 0, "a": 1, "b": 1, "c": 1, "c[2]": 2, "d": 1, `d["k"]`: 2, `d["k"].b`: 3, "e": 1, "g": 1, "g.g.c[0]": 4, "h": 1, "i": 1, "k": 1} {
		playsBehind(t, ahead, line("open", "t", path, "p"), fmt.Sprint("ok ", rungs), "verify s p.M "+of+" p", "ok", "verify s p.M "+other+" p", "forged")
	}
	playsBehind(t, ahead, "open t f p", "nothing", "open t c[9] p", "nothing", "open t z p", "nofield", "open t a.a p", "into", "open t a. p", "step", "open t "+repeated("a", 1024)+" p", "long", "verify s p.M "+of+" p", "none",
		"open t a p", "ok 1", "open t f p", "nothing", "verify s p.M "+of+" p", "ok", "open u a p", "ok 1", "verify s p.M "+of+" p", "forged", "verify s p.M "+other+" p", "ok",
		"verify s p.M zz p", "hex", `verify s p.M "" p`, "proof", "verify s p.M 00 p", "proof", "verify s p.M "+of+"00 p", "proof", "verify s p.M "+strings.ToUpper(of)+" p", "hex", "verify s p.N "+of+" p", "name", "verify s "+repeated("n", 256)+" "+of+" p", "long", "verify s none zz p", "hex", "verify q p.M "+other+" p", "forged", "load s", "ok 0 0", "verify s p.M "+other+" p", "name",
	)
}

func TestPack(t *testing.T) { // P2005: pack: the head of the schema's texts, the type and N, and the trees behind it; or the value's number
	s := schema(t, small)
	ahead := slices.Concat(trees("t", `{"a":1}`, "u", "{}", "v", rich), loaded("q", proto+"message Other { bytes a = 1; }"), []string{line("json", "o", "q", "Other", `{"a":"AA=="}`), "ok"})
	for _, c := range []struct {
		per   int
		trees string
		texts []string
	}{
		{1, "", nil}, {256, "", nil}, {2, " t u v", []string{`{"a":1}`, "{}", rich}}, {1, " t t", []string{`{"a":1}`, `{"a":1}`}}, {256, " v u t", []string{rich, "{}", `{"a":1}`}},
	} {
		var l []api.Value
		for _, text := range c.texts {
			l = append(l, treeOf(t, s, "p.M", text))
		}
		b, _, e := stream.Pack(api.Head{Sources: s.Texts(), Type: "p.M", Per: c.per}, l)
		if e != api.OK {
			t.Fatal(e)
		}
		pairs := []string{fmt.Sprintf("pack f s p.M %d%s", c.per, c.trees), fmt.Sprint("ok ", len(b)), "dump f", "ok " + digest.Hex(b), "unpack f x", fmt.Sprintf("ok %d 0", len(l))}
		for i, text := range c.texts {
			pairs = append(pairs, fmt.Sprintf("show x.%d", i), "ok "+word(text))
		}
		playsBehind(t, ahead, append(pairs, fmt.Sprintf("show x.%d", len(l)), "none", "show x", "none", "mend f g", fmt.Sprintf("ok %d 0", len(b)), "dump g", "ok "+digest.Hex(b))...)
	}
	playsBehind(t, ahead, "bytes f old", "ok 3", "pack f s p.M 0 t", "arg 0", "pack f s p.M 257 t", "arg 0", "pack f s p.N 1 t", "name 0", "pack f s "+repeated("n", 256)+" 1 t", "long 0", "pack f s p.N 0 t", "name 0", "pack f s p.M 2 o", "type 0", "pack f s p.M 2 t u t o u", "type 3", "pack f q Other 2 o t", "type 1", "pack f q Other 2 u", fmt.Sprint("ok ", headLen(t, proto+"message Other { bytes a = 1; }", "Other")+36+1), "pack f s p.M 0 o", "arg 0", "dump f", last(t, append(first(ahead), "pack f q Other 2 u", "dump f")...))
	// MaxRecords trees and one more.
	playsBehind(t, ahead, "pack f s p.M 256"+repeated(" u", api.MaxRecords), fmt.Sprint("ok ", headLen(t, small, "p.M")+16*36+4096), "unpack f x", "ok 4096 0", "get x.4095 a", "ok absent", "pack f s p.M 256"+repeated(" u", api.MaxRecords+1), "records 0", "unpack f y", "ok 4096 0")
}

func TestUnpack(t *testing.T) { // P2005: unpack: trees by their places, with the schema of the head and its type; hurt parts; streams that are none
	ahead := slices.Concat(trees("t", `{"a":1}`, "u", `{"a":2,"g":{"b":"x"}}`, "x.1", `{"a":8}`, "x.2", `{"a":9}`, "x.02", `{"a":7}`), loaded("q", proto+"message Other { bytes a = 1; }"))
	playsBehind(t, ahead, "pack f s p.M 2 t u", fmt.Sprint("ok ", headLen(t, small, "p.M")+36+3+8), "load s", "ok 0 0", "unpack f x", "ok 2 0", "get x.0 a", "ok num 1", "get x.1 g", `ok message "{\"b\":\"x\"}"`, "get x.2 a", "ok num 9", "get x.02 a", "ok num 7", "encode x.0 b", "ok 2", "sign x.0", last(t, append(first(ahead), "sign t")...), "merge x.1 x.0 x.1", "ok", "get x.1 a", "ok num 1", `unpack f ""`, "ok 2 0", "get .1 a", "ok num 2", `unpack f "a b"`, "ok 2 0", `get "a b.0" a`, "ok num 1", "unpack f x.0", "ok 2 0", "get x.0.1 a", "ok num 2", "get x.0 a", "ok num 1")
	// What is broken.
	s := schema(t, small)
	b, _, e := stream.Pack(api.Head{Sources: s.Texts(), Type: "p.M", Per: 1}, []api.Value{treeOf(t, s, "p.M", `{"a":1}`), treeOf(t, s, "p.M", `{"a":2}`), treeOf(t, s, "p.M", `{"a":3}`)})
	if e != api.OK {
		t.Fatal(e)
	}
	_, head, _ := stream.Look(b)
	hex := func(change func(b []byte) []byte) string { return digest.Hex(change(slices.Clone(b))) }
	at := func(i int) string { return hex(func(b []byte) []byte { b[i] ^= 1; return b }) }
	cut := func(n int) string { return hex(func(b []byte) []byte { return b[:n] }) }
	for _, c := range []struct{ digits, unpack, mend string }{
		{at(0), "magic", "magic"}, {"", "magic", "magic"}, {cut(8), "head", "head"}, {cut(head - 1), "head", "head"}, {at(20), "sum", "sum"}, {cut(head), "ok 0 0", fmt.Sprint("ok ", head, " 0")}, {at(head), "ok 2 1", ""}, {at(len(b) - 1), "ok 2 1", ""}, {cut(len(b) - 1), "ok 2 1", ""}, {at(head + 45), "ok 2 1", ""},
		{hex(func(b []byte) []byte { b[head] ^= 1; b[len(b)-1] ^= 1; return b }), "ok 1 2", ""}, {hex(func(b []byte) []byte { return append(b, 7) }), "ok 3 1", fmt.Sprint("ok ", len(b), " 1")},
	} {
		pairs := []string{line("hex", "f", c.digits), fmt.Sprint("ok ", len(c.digits)/2), "bytes g old", "ok 3", "unpack f x", c.unpack}
		if c.mend == "" {
			kept := int(c.unpack[3] - '0')
			c.mend = fmt.Sprintf("ok %d %s", head+kept*(len(b)-head)/3, c.unpack[5:])
		}
		pairs = append(pairs, "mend f g", c.mend)
		if !strings.HasPrefix(c.mend, "ok") {
			pairs = append(pairs, "dump g", "ok 6f6c64", "get x.1 a", "ok num 8", "show x.0", "none")
		} else {
			pairs = append(pairs, "unpack g y", c.unpack[:5]+"0", "mend g f", strings.Join(strings.Fields(c.mend)[:2], " ")+" 0")
		}
		playsBehind(t, ahead, pairs...)
	}
}

func TestUnpackHeads(t *testing.T) { // P2005: heads whose sources don't load, or whose type they have not: no stream has them
	frame := func(h api.Head) string {
		var parts [][]byte
		for _, s := range h.Sources {
			parts = append(parts, []byte(s.Name), []byte(s.Text))
		}
		b, e := digest.Frame(append(parts, []byte(h.Type), []byte{byte(h.Per), byte(h.Per >> 8)}))
		if e != api.OK {
			t.Fatal(e)
		}
		four := func(n int) []byte { return []byte{byte(n), byte(n >> 8), byte(n >> 16), byte(n >> 24)} }
		all := slices.Concat([]byte("sigstrm\x01"), four(len(b)), b)
		return digest.Hex(append(all, four(digest.Crc(all))...))
	}
	src := func(text string) []api.Source { return []api.Source{{Name: "f", Text: text}} }
	for _, c := range []struct {
		head api.Head
		want string
	}{
		{api.Head{Sources: src(small), Type: "p.M", Per: 3}, "ok 0 0"}, {api.Head{Sources: src(small), Type: "p.N", Per: 3}, "head"}, {api.Head{Sources: src(small), Type: "p.M", Per: 0}, "head"}, {api.Head{Sources: src(small), Type: "p.M", Per: 257}, "head"},
		{api.Head{Sources: src("x"), Type: "p.M", Per: 3}, "head"}, {api.Head{Sources: src(proto + "message M { N n = 1; }"), Type: "M", Per: 3}, "head"}, {api.Head{Sources: slices.Repeat(src(small), 2), Type: "p.M", Per: 3}, "head"}, {api.Head{Type: "p.M", Per: 3}, "head"}, {api.Head{Sources: []api.Source{{Name: "", Text: small}}, Type: "p.M", Per: 3}, "head"},
	} {
		digits := frame(c.head)
		plays(t, "hex f "+digits, fmt.Sprint("ok ", len(digits)/2), "unpack f x", c.want, "show x.0", "none", "mend f g", map[bool]string{true: fmt.Sprintf("ok %d 0", len(digits)/2), false: c.want}[c.want == "ok 0 0"])
	}
	// A head whose sources are not the canonical texts: its trees have the schema of these.
	text := proto + "message M { // a remark\n int32 a = 1; N n = 2; } message N { string s = 1; }"
	h := api.Head{Sources: []api.Source{{Name: "odd", Text: text}}, Type: "M", Per: 2}
	s := schema(t, text)
	b, _, e := stream.Pack(h, []api.Value{treeOf(t, s, "M", `{"a":1,"n":{"s":"x"}}`)})
	if e != api.OK {
		t.Fatal(e)
	}
	plays(t, "hex f "+digest.Hex(b), fmt.Sprint("ok ", len(b)), "unpack f x", "ok 1 0", "get x.0 n", `ok message "{\"s\":\"x\"}"`, "clear x.0 n.s y", "ok", "show y", `ok "{\"a\":1,\"n\":{}}"`, "mend f g", fmt.Sprintf("ok %d 0", len(b)), "dump g", "ok "+digest.Hex(b))
}

func TestBlobsTakenPlace(t *testing.T) { // P2005: a blob takes another one's place; what was made of the old one stays
	playsBehind(t, trees("t", `{"a":1}`), "encode t b", "ok 2", "strict b s p.M u", "ok", "bytes b xyz", "ok 3", "dump b", "ok 78797a", "show u", `ok "{\"a\":1}"`, "hex b 7801", "ok 2", "canon b s p.M b", "ok 0", "dump b", "ok", "log b", "ok 8", "dump b", "ok 7369677265677301", "pack b s p.M 1", fmt.Sprint("ok ", headLen(t, small, "p.M")), "mend b b", fmt.Sprintf("ok %d 0", headLen(t, small, "p.M")), "log log", "ok 8", "reopen b", "log")
}
