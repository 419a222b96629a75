package shell_test

import (
	"fmt"
	"slices"
	"testing"

	"sigil/api"
)

// filling is a schema of which trees soon weigh much.
const filling = proto + "message L { repeated string l = 1; string b = 2; map<string, L> m = 3; optional bool n = 4; L g = 5; bytes h = 6; }"

// The tree that is doubled: so many texts of so many bytes; what it weighs, and how many bytes it has.
const (
	texts      = 64
	textLen    = 16380
	fullWeight = 2 + texts*(1+textLen)
	fullSize   = texts * (3 + textLen)
	// What four such trees leave of the room.
	spare = 1<<22 - 4*fullWeight
)

// doubled are lines by which the tree t comes to be, of the schema s.
func doubled() []string {
	pairs := append(loaded("s", filling), line("json", "t", "s", "L", `{"l":["`+repeated("x", textLen)+`"]}`), "ok")
	for range 6 {
		pairs = append(pairs, "merge t t t", "ok")
	}
	return pairs
}

// quarters are lines by which there are t, t1, t2 and t3, which leave spare of the room.
func quarters() []string {
	pairs := doubled()
	for i := range 3 {
		pairs = append(pairs, fmt.Sprintf("strip t t%d", i+1), "ok")
	}
	return pairs
}

// text is the line that makes a tree with a text of so many bytes, which weighs two more.
func text(name string, n int) string {
	return line("json", name, "s", "L", `{"b":"`+repeated("y", n)+`"}`)
}

// heavy looks at what a tree of filling weighs.
func heavy(t *testing.T, text string, weight int) {
	t.Helper()
	if got := count(treeOf(t, schema(t, filling), "L", text)); got != weight {
		t.Fatal(text, got, weight)
	}
}

func TestFullOfTrees(t *testing.T) { // P2007: trees of MaxValues together, and one more; what takes the place of another
	t.Parallel()
	if api.MaxValues != 1<<22 || spare != 760 {
		t.Fatal(api.MaxValues, spare)
	}
	playsBehind(t, quarters(), text("f", spare-1), "long", "show f", "none", text("f", spare-2), "ok", "json g s L {}", "long", "show g", "none",
		// In the place of another: as heavy, too heavy, lighter by one.
		text("f", spare-2), "ok", text("f", spare-1), "long", "get f b", "ok text "+word(repeated("y", spare-2)), "strip t t1", "ok", "strip t t4", "long", "show t4", "none", "keep t t1 b", "ok", "strip t t1", "ok", "json g s L {}", "long",
		text("f", spare-3), "ok", "json g s L {}", "ok", "json h s L {}", "long", "json g s L {}", "ok", line("json", "g", "s", "L", `{"n":true}`), "long", "show g", `ok "{}"`, text("f", spare-4), "ok", line("json", "g", "s", "L", `{"n":true}`), "ok", line("json", "g", "s", "L", `{"b":"1"}`), "long", "show g", `ok "{\"n\":true}"`,
	)
}

func TestWeights(t *testing.T) { // P2007: values and the bytes of texts, of keys too, count, each as often as it stands there
	t.Parallel()
	var pairs []string
	for _, c := range []struct {
		text   string
		weight int
	}{
		{`{"n":true}`, 2}, {`{"n":false}`, 2}, {`{"b":"é"}`, 4}, {`{"h":"AAAA"}`, 5}, {`{"h":"AA=="}`, 3}, {`{"l":["","",""]}`, 5}, {`{"l":["abc"]}`, 6}, {`{"g":{"g":{"g":{}}}}`, 4}, {`{"m":{"key":{}}}`, 1 + 1 + 1 + 4 + 1}, {`{"m":{"":{"b":"x"},"kk":{"m":{"":{}}}}}`, 1 + 1 + 1 + 1 + 1 + 2 + 1 + 3 + 1 + 1 + 1 + 1 + 1},
	} {
		heavy(t, c.text, c.weight)
		// Where just as much is left, and where it is one less.
		pairs = append(pairs, text("f", spare-2-c.weight), "ok", line("json", "n", "s", "L", c.text), "ok", "json o s L {}", "long", "show n", "ok "+word(c.text), "json n s L {}", "ok")
		pairs = append(pairs, text("f", spare-2-c.weight+1), "ok", line("json", "n", "s", "L", c.text), "long", "show n", `ok "{}"`)
	}
	playsBehind(t, quarters(), pairs...)
}

func TestFullOfAll(t *testing.T) { // P2007: proofs and edits count with the trees, each by its values alone
	t.Parallel()
	playsBehind(t, quarters(),
		// f weighs 102; the proof of its text 101; the edits from n to f 101, from f to n nothing.
		text("f", 100), "ok", "json n s L {}", "ok", "open f b p", "ok 1", "diff n f e", "ok 1", "diff f n d", "ok 1", "diff f f d", "ok 0", text("g", spare-102-1-101-101-2+1), "long", text("g", spare-102-1-101-101-2), "ok",
		// Full: each more is refused, what weighs nothing is not.
		"json o s L {}", "long", "open n \"\" q", "long", "verify s L 00 q", "none", "open f b q", "long", "diff n f x", "long", "apply n x o", "none", "diff f n x", "ok 1", "apply f x n", "ok", "show n", `ok "{}"`, "diff n n z", "ok 0", "undo f x y", "long", "undo n z y", "ok 0",
		// In the place of another.
		"open f b p", "ok 1", `open f "" p`, "long", "verify s L 00 p", "proof", "diff n f e", "ok 1", "undo f x e", "ok 1", "undo f x z", "long", "apply n e f", "ok", "diff n g e", "long", "apply n e o", "long", "apply n e f", "ok", "get f b", "ok text "+word(repeated("y", 100)),
		// The edits go: their room is free again.
		"diff n n e", "ok 0", text("o", 99), "ok", "json o2 s L {}", "long", "diff n f e", "long", "open n \"\" p", "ok 0", text("o", 199), "ok", text("o", 200), "long", "open f b p", "long", text("o", 98), "ok", "open n \"\" p", "ok 0", "open f b p", "ok 1", "diff n f e", "long",
	)
}

func TestEditsOfManyValues(t *testing.T) { // P2007: of edits all values of each of them count, those that a list gets too
	t.Parallel()
	was, is := `{"l":["a","z"],"n":true,"h":"AAAA"}`, `{"l":["a","bb","ccc","dddd","z"],"b":"eeeee","g":{"m":{"k":{"b":"f"}}}}`
	// ESplice of three texts, ESet of b, of g: EClear of n and h weigh nothing.
	weight := 3 + 4 + 5 + 6 + (1 + 1 + 1 + 2 + 1 + 2)
	heavy(t, was, 1+1+2+2+1+1+3)
	heavy(t, is, 1+1+2+3+4+5+2+6+8)
	playsBehind(t, quarters(), line("json", "a", "s", "L", was), "ok", line("json", "b", "s", "L", is), "ok", text("f", spare-11-32-weight-2), "ok", "diff a b e", "ok 5", "json o s L {}", "long", "diff a b e", "ok 5", "diff a b d", "long", text("f", spare-11-32-weight-1), "long", "diff a a e", "ok 0", text("f", spare-11-32-weight-1), "ok", "diff a b e", "long", "undo a e e", "ok 0", "diff b a e", "ok 5", "same a b", "ok no")
}

func TestFullForEach(t *testing.T) { // P2007: every command that makes a tree, proofs or edits, on a full store: a new thing, one that is as heavy, and one that is heavier
	t.Parallel()
	ahead := slices.Concat(quarters(), loaded("q", filling), []string{
		text("f", 10), "ok", "encode f b", "ok 12", "register x s L", "ok 1", "pack m s L 1 f", fmt.Sprint("ok ", headLen(t, filling, "L")+36+13), "json n s L {}", "ok", text("o", 10), "ok", text("x.0", 10), "ok", "json z s L {}", "ok", "diff n f e", "ok 1", "open f b p", "ok 1", "diff n f e2", "ok 1",
		text("fill", spare-12*3-2-11*3-2), "ok",
	})
	for _, command := range []string{
		"json %s s L " + word(`{"b":"yyyyyyyyyy"}`), "strict b s L %s", "loose b s L %s", "merge f n %s", "keep f %s b", "strip f %s", "project f q L %s", "read x 1 1 b %s", "apply n e %s",
	} {
		ahead = append(ahead, fmt.Sprintf(command, "new"), "long", "show new", "none", fmt.Sprintf(command, "z"), "long", "show z", `ok "{}"`, fmt.Sprintf(command, "o"), "ok", "same o f", "ok yes")
	}
	ahead = append(ahead, "unpack m new", "long", "show new.0", "none", "unpack m x", "ok 1 0", "same x.0 f", "ok yes", "unpack m z", "long", "show z.0", "none",
		"open f b new", "long", "verify s L 00 new", "none", "open f b p", "ok 1", `open f "" p`, "long", "diff n f new", "long", "apply n new o", "none", "diff n f e2", "ok 1", "diff n fill e2", "long", "apply n e2 o", "ok", "same o f", "ok yes", "diff f n new", "ok 1", "undo f new new", "long", "apply f new o", "ok", "show o", `ok "{}"`)
	plays(t, ahead...)
	// Clear, of which what comes out is lighter than what it comes of.
	playsBehind(t, quarters(), line("json", "f", "s", "L", `{"b":"`+repeated("y", spare-12)+`","l":["abcdefg"]}`), "ok", "clear f b new", "long", "show new", "none", "clear f l new", "long", "clear f l f", "ok", "clear f b new", "ok", "show new", `ok "{}"`, text("o", 8), "long", text("o", 7), "ok", "json q s L {}", "long")
}

func TestUnpackTooMuch(t *testing.T) { // P2007: unpack makes all its trees, or none; what they take the place of is not counted
	t.Parallel()
	head := headLen(t, filling, "L")
	// t, and two in a stream: one more fits twice, two don't a second time.
	playsBehind(t, doubled(), "pack one s L 1 t", "ok "+number(head+39+fullSize), "pack two s L 1 t t", "ok "+number(head+2*(39+fullSize)), "pack five s L 1 t t t t t", "ok "+number(head+5*(39+fullSize)),
		"unpack five x", "long", "show x.0", "none", "show x.4", "none", "unpack two x", "ok 2 0", "same x.0 x.1", "ok yes", "unpack two y", "long", "show y.0", "none", "show y.1", "none", "unpack one y", "ok 1 0", "unpack two y", "long", "show y.1", "none", "same y.0 t", "ok yes", "unpack two x", "ok 2 0", "unpack five x", "long", "same x.1 t", "ok yes", "show x.2", "none", "unpack one x", "ok 1 0", "same x.1 t", "ok yes",
		// y.0 alone is heavy: two take its place and one's that is not there.
		"clear x.0 l x.0", "ok", "clear x.1 l x.1", "ok", "unpack two y", "ok 2 0", "unpack two x", "long", "show x.0", `ok "{}"`, "unpack one x", "ok 1 0", "show x.1", `ok "{}"`,
	)
	// All that there is, in the place of all that there is; and one more.
	playsBehind(t, doubled(), "strip t x.0", "ok", "clear t l t", "ok", "strip x.0 x.1", "ok", "strip x.0 x.2", "ok", "keep t t", "ok", text("x.4", spare-2), "ok", "pack m s L 2 x.0 x.1 x.2 x.2 x.4", "ok "+number(head+5*36+4*(3+fullSize)+2+1+2+spare-2), text("x.4", spare-1), "ok", "pack n s L 2 x.0 x.1 x.2 x.2 x.4", "ok "+number(head+5*36+4*(3+fullSize)+2+1+2+spare-1), "unpack n x", "long", "show x.3", "none", "get x.4 b", "ok text "+word(repeated("y", spare-1)),
		// t weighs one.
		"unpack m x", "long", "show x.3", "none", "get x.4 b", "ok text "+word(repeated("y", spare-1)), "clear t b t", "absent", text("x.4", spare-3), "ok", "pack k s L 2 x.0 x.1 x.2 x.2 x.4", "ok "+number(head+5*36+4*(3+fullSize)+2+1+2+spare-3), "unpack k x", "ok 5 0", "same x.3 x.0", "ok yes", "json u s L {}", "long", "unpack m x", "long", "unpack k x", "ok 5 0", "unpack n x", "long",
	)
}

func TestUnpackAll(t *testing.T) { // P2007: a stream of just MaxValues in the place of all trees that there are; a run that has no tree but these
	t.Parallel()
	head := headLen(t, filling, "L")
	pairs := append(loaded("s", filling), line("json", "x.0", "s", "L", `{"l":["`+repeated("x", textLen)+`"]}`), "ok")
	for range 6 {
		pairs = append(pairs, "merge x.0 x.0 x.0", "ok")
	}
	pairs = append(pairs, "strip x.0 x.1", "ok", "strip x.0 x.2", "ok")
	for _, c := range []struct {
		name string
		n    int
	}{{"m", spare - 2}, {"n", spare - 1}} {
		pairs = append(pairs, text("x.4", c.n), "ok", "pack "+c.name+" s L 2 x.0 x.1 x.2 x.2 x.4", "ok "+number(head+5*36+4*(3+fullSize)+2+1+2+c.n))
	}
	playsBehind(t, pairs, "unpack n x", "long", "show x.3", "none", "unpack m x", "ok 5 0", "same x.3 x.0", "ok yes", "json u s L {}", "long", "unpack n x", "long", "unpack m y", "long", "show y.0", "none", "unpack m x", "ok 5 0")
}

func TestFullOfBlobs(t *testing.T) { // P2007: blobs of MaxLog together, and one byte more, by every command that makes one; trees do not count with them
	t.Parallel()
	if api.MaxLog != 1<<26 {
		t.Fatal(api.MaxLog)
	}
	head := headLen(t, filling, "L")
	pairs := slices.Concat(doubled(), []string{"json n s L {}", "ok"})
	for i := range 63 {
		pairs = append(pairs, fmt.Sprint("encode t b", i), "ok "+number(fullSize))
	}
	left := 1<<26 - 63*fullSize
	// left is the room of one more, and of some bytes.
	pairs = append(pairs, "encode t b63", "ok "+number(fullSize))
	left -= fullSize
	pairs = append(pairs, line("bytes", "r", repeated("r", left+1)), "long", "dump r", "none", line("bytes", "r", repeated("r", left)), "ok "+number(left),
		// Full.
		"bytes z a", "long", "dump z", "none", `bytes z ""`, "ok 0", "dump z", "ok", "hex z 00", "long", `hex z ""`, "ok 0", "encode n z", "ok 0", "encode t z", "long", "log z", "long", "pack z s L 1", "long", "pack z s L 1 n", "long", "canon b0 s L z", "long", "mend b0 z", "magic", "dump z", "ok",
		// In the place of another.
		line("bytes", "r", repeated("q", left)), "ok "+number(left), line("bytes", "r", repeated("q", left+1)), "long", "bytes r q", "ok 1", line("bytes", "y", repeated("q", left)), "long", line("bytes", "y", repeated("q", left-1)), "ok "+number(left-1), "dump r", "ok 71", "bytes r qq", "long", "dump r", "ok 71", "hex r 1234", "long", "hex r 12", "ok 1", "dump r", "ok 12", "log r", "long", "pack r s L 1", "long", "dump r", "ok 12", "encode t b0", "ok "+number(fullSize), "encode t r", "long", "dump r", "ok 12", "canon b0 s L b1", "ok "+number(fullSize), "canon b0 s L r", "long",
		"pack b0 s L 1", "ok "+number(head), "mend b0 b1", fmt.Sprintf("ok %d 0", head), "log b2", "ok 8", "mend b0 z", fmt.Sprintf("ok %d 0", head), "encode t b0", "ok "+number(fullSize), "encode t b1", "ok "+number(fullSize), "encode t b2", "long", "dump b2", "ok 7369677265677301", "log b1", "ok 8", "encode t b1", "ok "+number(fullSize),
		// The trees have their own room.
		"strip t t2", "ok", "strip t t3", "ok", "strict b0 s L t4", "ok", "strict b0 s L t5", "long", "show t5", "none", "encode t4 b0", "ok "+number(fullSize),
	)
	plays(t, pairs...)
}

func TestMendTooMuch(t *testing.T) { // P2007: mend of what the blobs have no room for
	t.Parallel()
	head := headLen(t, filling, "L")
	pairs := slices.Concat(doubled(), []string{"pack m s L 1" + repeated(" t", 33), "ok " + number(head+33*(39+fullSize)), "mend m n", "long", "dump n", "none", "mend m m", fmt.Sprintf("ok %d 0", head+33*(39+fullSize)), "pack n s L 1" + repeated(" t", 32), "long", "pack n s L 1" + repeated(" t", 30), "ok " + number(head+30*(39+fullSize)), "mend m n", "long", "mend n n", fmt.Sprintf("ok %d 0", head+30*(39+fullSize)), "mend n m", fmt.Sprintf("ok %d 0", head+30*(39+fullSize)),
		// The stream's own bound is told with a number, the room without one.
		"pack k s L 1" + repeated(" t", 65), "size 0", "pack k s L 1" + repeated(" t", 62), "long"})
	plays(t, pairs...)
}

func TestRoomLeftOver(t *testing.T) { // P2007: what was refused takes no room, and what was taken away leaves its own
	t.Parallel()
	pairs := quarters()
	for range 20 {
		pairs = append(pairs, "strip t n", "long", "merge t t n", "size", "diff t none e", "none", text("n", spare), "long")
	}
	playsBehind(t, pairs, text("n", spare-2), "ok", "json o s L {}", "long")
	// In and out, many times.
	pairs = doubled()
	for range 100 {
		pairs = append(pairs, "strip t a", "ok", "keep t a", "ok", "open t \"\" p", "ok 0", "open a \"\" p", "ok 0")
	}
	playsBehind(t, pairs, "strip t a", "ok", "strip t b", "ok", "strip t c", "ok", "json p s L {}", "ok", "strip t d", "long")
}
