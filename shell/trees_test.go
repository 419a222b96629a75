package shell_test

import (
	"fmt"
	"slices"
	"strings"
	"testing"

	"sigil/api"
	"sigil/path"
)

// trees are lines by which the schema s and trees of it come to be, each with its answer.
func trees(texts ...string) []string {
	l := loaded("s", small)
	for i := 0; i < len(texts); i += 2 {
		l = append(l, line("json", texts[i], "s", "p.M", texts[i+1]), "ok")
	}
	return l
}

// rich is a tree with something of each kind.
const rich = `{"a":5,"b":"hi","c":[1,-1,2],"d":{"":{},"k":{"b":"x"}},"e":false,"g":{"a":7,"g":{"c":[9]}},"h":"AP8=","i":"18446744073709551615","k":"ONE"}`

// deep is a JSON text of so many messages in one another.
func deep(n int) string { return repeated(`{"g":`, n-1) + "{}" + repeated("}", n-1) }

func TestJson(t *testing.T) { // P2005: json: the tree, or the error's word and its place
	playsBehind(t, trees("t", rich, "u", ` { "i" : 18446744073709551615, "b":"hi", "a":"5" , "c":[1,-1,2],"d":{"k":{"b":"x"},"":{}},"e":false,"g":{"a":7,"g":{"c":[9]}},"h":"AP8=","k":1,"f":null}`), "same t u", "ok yes", "show t", "ok "+word(rich), "show u", "ok "+word(rich))
	ahead := trees("t", `{"a":1}`)
	for _, c := range [][2]string{
		{"", "json 0"}, {`{"a":1,}`, "json 7"}, {`{"a":1.0}`, "jsonnumber 5"}, {`{"a":true}`, "shape 5"}, {`{"x":1}`, "member 1"}, {`{"f":1,"g":{}}`, "jsononeof 7"}, {`{"b":"\ud800"}`, "jsontext 5"}, {"{\"b\":\"\xff\"}", "jsontext 6"}, {`{"h":"AP8"}`, "base64 5"}, {`{"k":"TWO"}`, "jsonenum 5"}, {deep(65), "depth 320"}, {repeated("[", 201), "depth 200"},
	} {
		// What is refused makes nothing.
		playsBehind(t, ahead, line("json", "t", "s", "p.M", c[0]), c[1], "get t a", "ok num 1", line("json", "n", "s", "p.M", c[0]), c[1], "show n", "none")
	}
	playsBehind(t, ahead, line("json", "t", "s", "p.N", "{}"), "name 0", line("json", "t", "s", "", "{}"), "name 0", line("json", "t", "s", "p.E", "{}"), "name 0", line("json", "t", "s", repeated("n", 256), "{}"), "long 0", "get t a", "ok num 1", line("json", "t", "s", "p.M", deep(64)), "ok", "get t a", "ok absent")
}

func TestGet(t *testing.T) { // P2005: get: each kind, what is not there, a message of another type, the path's errors
	playsBehind(t, trees("t", rich, "n", "{}"),
		"get t a", "ok num 5", "get t b", `ok text "hi"`, "get t c", "ok list 3", "get t c[1]", "ok num -1", "get t d", "ok map 2", `get t "d[\"k\"]"`, `ok message "{\"b\":\"x\"}"`, `get t "d[\"k\"].b"`, `ok text "x"`, `get t "d[\"\"]"`, `ok message "{}"`, "get t e", "ok num 0", "get t f", "ok absent", "get t g.g.c[0]", "ok num 9", "get t g.g", `ok message "{\"c\":[9]}"`, "get t h", `ok text "\x00\xff"`, "get t i", "ok num -1", "get t k", "ok num 1", `get t ""`, "ok message "+word(rich),
		"get t c[3]", "ok absent", `get t "d[\"z\"]"`, "ok absent", "get t g.b", "ok absent", "get t g.g.g.g.a", "ok absent", `get n ""`, `ok message "{}"`, "get n c", "ok absent", "get n d", "ok absent",
		"get t z", "nofield", "get t a.a", "into", "get t c[x]", "step", "get t c[-1]", "index", "get t d[1]", "keytext", "get t a.", "step", "get t "+repeated("a", 1024), "long", "get t "+repeated("a", 1023), "step", "get t "+repeated("a", 255), "nofield",
	)
	// A message of a type that is not the tree's: below a field, in a list, in a map, in what lies in these.
	two := proto + `message A { B b = 1; repeated B l = 2; map<bool, B> m = 3; A a = 4; } message B { int64 x = 1; map<int32, C> c = 2; } message C { enum E { Z = 0; Y = 2; } repeated E e = 1; A a = 2; }`
	text := `{"b":{"x":"1"},"l":[{"c":{"-1":{"e":["Y",3]}}},{"x":"2"}],"m":{"true":{"c":{"7":{"a":{"a":{}}}}}},"a":{"b":{}}}`
	plays(t, slices.Concat(loaded("s", two), []string{
		line("json", "t", "s", "A", text), "ok", "get t b", `ok message "{\"x\":\"1\"}"`, "get t l[0]", `ok message "{\"c\":{\"-1\":{\"e\":[\"Y\",3]}}}"`, "get t l[0].c[-1]", `ok message "{\"e\":[\"Y\",3]}"`, "get t l[1]", `ok message "{\"x\":\"2\"}"`, "get t l[0].c[-1].e", "ok list 2", "get t l[0].c[-1].e[1]", "ok num 3", "get t m[true]", `ok message "{\"c\":{\"7\":{\"a\":{\"a\":{}}}}}"`, "get t m[true].c[7]", `ok message "{\"a\":{\"a\":{}}}"`, "get t m[true].c[7].a", `ok message "{\"a\":{}}"`, "get t a.b", `ok message "{}"`, "get t m[false]", "ok absent", "get t l", "ok list 2", "get t m", "ok map 1", `get t ""`, "ok message " + word(text),
	})...)
}

func TestCut(t *testing.T) { // P2005: clear, keep, strip: the trees, the paths' and masks' errors, masks of many words and of none
	ahead := trees("t", rich)
	playsBehind(t, ahead, "clear t c[0] u", "ok", "get u c", "ok list 2", "get t c", "ok list 3", `clear t "" u`, "ok", "show u", `ok "{}"`, `clear t "d[\"k\"]" u`, "ok", "get u d", "ok map 1", "clear t f u", "absent", "clear t z u", "nofield", "clear t c[9] u", "absent", "clear t a.b u", "into", "clear t c[01] u", "step", "clear t "+repeated("a", 1024)+" u", "long", "get u d", "ok map 1", "clear t a t", "ok", "get t a", "ok absent", "clear t a t", "absent")
	playsBehind(t, ahead, "keep t u", "ok", "show u", `ok "{}"`, "keep t u a c", "ok", "show u", `ok "{\"a\":5,\"c\":[1,-1,2]}"`, "keep t u d.b g.g", "ok", "show u", `ok "{\"d\":{\"\":{},\"k\":{\"b\":\"x\"}},\"g\":{\"g\":{\"c\":[9]}}}"`, `keep t u ""`, "ok", "same t u", "ok yes", "keep t u c a", "ok", "keep t v a a c c.d", "into", "keep t u a z", "nofield", "keep t u c[0]", "mask", "keep t u a.", "mask", "show u", `ok "{\"a\":5,\"c\":[1,-1,2]}"`, "keep t t k", "ok", "show t", `ok "{\"k\":\"ONE\"}"`)
	playsBehind(t, ahead, "strip t u", "ok", "same t u", "ok yes", "strip t u a b d e g h i k", "ok", "show u", `ok "{\"c\":[1,-1,2]}"`, "strip t u d.b g.g.c a c b e h i k", "ok", "show u", `ok "{\"d\":{\"\":{},\"k\":{}},\"g\":{\"a\":7,\"g\":{}}}"`, `strip t u ""`, "ok", "show u", `ok "{}"`, "strip t u z", "nofield", "strip t u c[0]", "mask", "strip t t b", "ok", "get t b", "ok absent")
	// MaxMask paths and one more.
	for _, name := range []string{"keep", "strip"} {
		playsBehind(t, ahead, name+" t u"+repeated(" a", api.MaxMask), "ok", name+" t v"+repeated(" a", api.MaxMask+1), "long", "show v", "none", name+" t v "+repeated("a", 1024), "long", name+" t v "+repeated("a", 1023), "mask", name+" t v "+repeated("a", 255), "nofield", "show v", "none")
	}
}

func TestLeaves(t *testing.T) { // P2005: leaves: the paths, quoted
	odd := `{"d":{"a\"\n é":{"a":1}}}`
	s := schema(t, small)
	l, e := path.Leaves(s, "p.M", treeOf(t, s, "p.M", odd))
	if e != api.OK || len(l) != 1 {
		t.Fatal(l, e)
	}
	playsBehind(t, trees("t", rich, "n", "{}", "o", odd), "leaves t", `ok "a" "b" "c[0]" "c[1]" "c[2]" "d[\"\"]" "d[\"k\"].b" "e" "g.a" "g.g.c[0]" "h" "i" "k"`, "leaves n", `ok ""`, "leaves o", "ok "+word(l[0]))
	// A path that is too long.
	key := repeated("k", 1015)
	playsBehind(t, trees("t", `{"d":{"`+key+`":{"a":1}}}`, "u", `{"d":{"`+key+`k":{"a":1}}}`, "v", `{"d":{"`+key+`kk":{}}}`), "leaves t", `ok "d[\"`+key+`\"].a"`, "leaves u", "ok "+word(`d["`+key+`k"].a`), "leaves v", "ok "+word(`d["`+key+`kk"]`))
	playsBehind(t, trees("t", `{"d":{"`+key+`kkk":{"a":1}}}`), "leaves t", "long", "get t d", "ok map 1")
}

func TestSame(t *testing.T) { // P2005: same: tree.Equal, whatever schema and type the two are of
	pairs := trees("t", rich, "u", rich, "v", `{"a":5}`, "n", "{}")
	pairs = append(pairs, loaded("q", proto+"message Other { int32 some = 1; } message Third { uint64 a = 1; }")...)
	pairs = append(pairs, line("json", "o", "q", "Other", `{"some":5}`), "ok", line("json", "w", "q", "Third", `{"a":5}`), "ok", line("json", "e", "q", "Third", `{}`), "ok")
	playsBehind(t, pairs, "same t t", "ok yes", "same t u", "ok yes", "same u t", "ok yes", "same t v", "ok no", "same v t", "ok no", "same v o", "ok yes", "same o v", "ok yes", "same o w", "ok yes", "same n e", "ok yes", "same n v", "ok no", "same e o", "ok no")
}

func TestMerge(t *testing.T) { // P2005: merge: by the first's schema and type
	ahead := trees("t", rich, "u", `{"a":6,"c":[8],"d":{"k":{"a":1},"z":{}},"f":3}`, "n", "{}", "d", deep(64), "e", deep(64))
	ahead = append(ahead, loaded("q", proto+"package p; message M { repeated sint32 c = 3; string q = 2; sfixed32 a = 77; } message N { string a = 1; }")...)
	ahead = append(ahead, line("json", "v", "q", "p.M", `{"c":[4],"q":"Q"}`), "ok", line("json", "w", "q", "p.N", `{"a":"x"}`), "ok", line("json", "x", "q", "p.M", `{"a":4}`), "ok")
	playsBehind(t, ahead,
		"merge t u v", "ok", "show v", "ok "+word(`{"a":6,"b":"hi","c":[1,-1,2,8],"d":{"":{},"k":{"a":1},"z":{}},"e":false,"f":3,"h":"AP8=","i":"18446744073709551615","k":"ONE"}`),
		"merge t n v", "ok", "same t v", "ok yes", "merge n t v", "ok", "same t v", "ok yes", "merge u u u", "ok", "get u c", "ok list 2", "merge d e v", "ok", "same d v", "ok yes",
	)
	playsBehind(t, ahead, "merge t v y", "ok", "get y b", `ok text "Q"`, "get y c[3]", "ok num 4", "get y q", "nofield", "merge v t y", "type", "show y", "ok "+word(strings.Replace(strings.Replace(rich, "hi", "Q", 1), "[1,-1,2]", "[1,-1,2,4]", 1)), "merge t w z", "type", "merge t x z", "type", "show z", "none", "merge v x z", "ok", "show z", `ok "{\"q\":\"Q\",\"c\":[4],\"a\":4}"`)
	// More bytes than a message may have.
	large := trees("t", `{"c":[`+repeated("1,", 999)+`1],"b":"`+repeated("x", 50000)+`"}`)
	for range 9 {
		large = append(large, "merge t t t", "ok")
	}
	playsBehind(t, large, "get t c", "ok list 512000", "merge t t t", "size", "get t c", "ok list 512000", "merge t t u", "size", "show u", "none")
}

func TestProject(t *testing.T) { // P2005: project: from the tree's own schema and type; the tree that is made has the new ones
	ahead := slices.Concat(trees("t", `{"a":-1,"b":"hi","e":false,"g":{"a":2,"e":true}}`), loaded("q", wider), loaded("r", proto+"message Other { int32 z = 1; }"))
	playsBehind(t, ahead,
		"project t q p.M u", "ok", "show u", "ok "+word(`{"a":"-1","b":"aGk=","g":{"a":"2","e":true}}`), "same t u", "ok no", "project u s p.M v", "compat", "show v", "none", "project u q p.M v", "ok", "same u v", "ok yes", "project t q none v", "name", "project t q "+repeated("n", 256)+" v", "long", "project t r Other v", "compat", "same u v", "ok yes", "project t q p.M t", "ok", "same t u", "ok yes", "get t more", "ok absent", "project t s p.M t", "compat",
	)
	// To a type of another name.
	playsBehind(t, slices.Concat(trees("t", `{"g":{"a":2}}`), loaded("q", proto+"message A { int64 a = 1; bytes b = 2; repeated sint32 c = 3; map<string, A> d = 4; optional bool e = 5; fixed32 f = 6; A g = 7; bytes h = 8; uint64 i = 9; int32 k = 10; }")), "project t q A u", "ok", "show u", `ok "{\"g\":{\"a\":\"2\"}}"`, "get u g", `ok message "{\"a\":\"2\"}"`, "project u q A t", "ok", "same t u", "ok yes", "strict none q A u", "none", "project t q p.M u", "name")
	// A list of what was single may have too many bytes: a tree of many fields.
	of := func(field string) string {
		return proto + "message M { repeated N l = 1; } message N { " + field + " a = 1; }"
	}
	pairs := slices.Concat(loaded("s", of("bool")), loaded("q", of("repeated bool")), []string{line("json", "t", "s", "M", `{"l":[`+repeated(`{"a":true},`, 255)+`{"a":true}]}`), "ok"})
	for range 10 {
		pairs = append(pairs, "merge t t t", "ok")
	}
	playsBehind(t, pairs, "project t q M u", "size", "show u", "none", "get t l", "ok list 262144", "encode t b", "ok 1048576")
}

func TestTreesTakenPlace(t *testing.T) { // P2005: a tree takes another one's place, its type too
	playsBehind(t, slices.Concat(trees("t", `{"a":1}`, "u", `{"a":2}`), loaded("q", proto+"message Other { string a = 1; }")), line("json", "t", "q", "Other", `{"a":"x"}`), "ok", "get t a", `ok text "x"`, "get t b", "nofield", "get u a", "ok num 2", "merge t u u", "type", "merge u t u", "type", "strip u t", "ok", "get t a", "ok num 2", "get t b", "ok absent", "encode t t", "ok 2", "dump t", "ok 0802", "get t a", "ok num 2")
}

func TestEdits(t *testing.T) { // P2005: diff, apply, undo: by the first's schema and type; how many edits
	ahead := trees("t", `{"a":5,"c":[1,2,3],"f":1,"d":{"j":{},"k":{"a":1}}}`, "u", `{"c":[1,9,3],"g":{},"d":{"k":{"a":2},"l":{}}}`)
	playsBehind(t, ahead,
		"diff t u e", "ok 7", "apply t e v", "ok", "same u v", "ok yes", "undo t e e2", "ok 7", "apply v e2 w", "ok", "same t w", "ok yes", "diff t t z", "ok 0", "apply u z v", "ok", "same u v", "ok yes", "undo u z z", "ok 0", "apply u e v", "base", "apply v e2 t", "ok", "undo u e f", "base", "apply t f t", "none", "apply t e t", "ok", "same t u", "ok yes", "apply t e t", "base", "diff u u e", "ok 0", "apply u e u", "ok", "same t u", "ok yes",
	)
	// Of another schema or type: the first's decides.
	more := slices.Concat(ahead, loaded("q", proto+"package p; message M { repeated sint32 c = 3; int32 extra = 20; } message N { string a = 1; }"), []string{line("json", "x", "q", "p.M", `{"c":[1,9,3],"extra":4}`), "ok", line("json", "y", "q", "p.M", `{"c":[7]}`), "ok", line("json", "n", "q", "p.N", `{"a":"x"}`), "ok"})
	playsBehind(t, more, "diff t x e", "type", "diff x t e", "type", "diff t y e", "ok 4", "diff y t f", "type", "diff x y f", "ok 2", "apply t f v", "nofield", "apply x f v", "ok", "same v y", "ok yes", "undo t f g", "nofield", "diff n t g", "type", "diff t n g", "type", "apply n e v", "nofield", "apply t e v", "ok", "show v", `ok "{\"c\":[7]}"`)
	// More edits than may be, and a path that is too long.
	key := repeated("k", 1018)
	playsBehind(t, trees("t", "{}", "u", `{"d":{"`+key+`":{"a":1}}}`, "v", `{"d":{"`+key+`":{"a":2}}}`), "diff t u e", "ok 1", "diff u v e", "long", "apply t e w", "ok", "same u w", "ok yes", "undo t e e", "ok 1", "apply u e w", "ok", "show w", `ok "{}"`)
	playsBehind(t, slices.Concat(loaded("s", proto+"message M { map<int32, bool> m = 1; }"), []string{line("json", "t", "s", "M", `{"m":{`+pairsOf(4096)+`}}`), "ok", line("json", "v", "s", "M", `{"m":{"-1":true}}`), "ok", "merge v t v", "ok", line("json", "w", "s", "M", `{"m":{"-2":true}}`), "ok"}), "diff t w e", "long", "diff v w e", "long", "diff t v e", "ok 1", "diff w t e", "long", "apply t e t", "ok", "same t v", "ok yes")
}

// pairsOf are members of a map, from 0 on.
func pairsOf(n int) string {
	l := make([]string, n)
	for i := range l {
		l[i] = fmt.Sprintf(`"%d":true`, i)
	}
	return strings.Join(l, ",")
}

func TestTooLarge(t *testing.T) { // P2005: apply makes trees of more than MaxMessage bytes: what the calls behind the commands answer of them
	pairs := append(loaded("s", filling), line("json", "t", "s", "L", `{"g":{"l":["`+repeated("x", textLen)+`"]}}`), "ok", "json n s L {}", "ok", line("json", "f", "s", "L", `{"g":{"b":"`+repeated("y", 200)+`"}}`), "ok", line("json", "o", "s", "L", `{"g":{}}`), "ok", "diff o f e", "ok 1")
	for range 6 {
		pairs = append(pairs, "merge t t t", "ok")
	}
	l := answers(t, append(first(pairs), "apply t e u", "commit u")...)
	playsBehind(t, pairs, "apply t e u", "ok", "encode t b", "ok "+number(fullSize+4), "encode u b", "size", "show u", "size", `get u ""`, "size", "get u g", "size", "get u g.b", "ok text "+word(repeated("y", 200)), "get u g.l", "ok list 64", "sign u", "size", "commit u", l[len(l)-1], "pack m s L 1 n u", "size 1", "merge u n v", "size", "merge n u v", "size", "project u s L v", "size", "show v", "none", "dump m", "none", "same u t", "ok no", "strip u v g.b", "ok", "same v t", "ok yes", "keep u v g.b", "ok", "same v f", "ok yes", "open u g.b p", "ok 2", "verify s L "+l[len(l)-1][3:]+" p", "ok", "open u g p", "ok 1", "verify s L "+l[len(l)-1][3:]+" p", "ok", `open n "" p`, "ok 0", "undo t e d", "ok 1", "apply u d w", "ok", "same w t", "ok yes", "clear u g.b w", "ok", "same w t", "ok yes", "dump b", last(t, append(first(pairs), "encode t b", "dump b")...))
}
