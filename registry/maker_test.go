package registry_test

import (
	"fmt"
	"math"
	"math/rand"
	"slices"
	"strings"
	"testing"

	"sigil/api"
	"sigil/bind"
	"sigil/encode"
	"sigil/tree"
)

// words are the words of the types, by type.
var words = []string{"", "double", "float", "int32", "int64", "uint32", "uint64", "sint32", "sint64", "fixed32", "fixed64", "sfixed32", "sfixed64", "bool", "string", "bytes", "E", "M"}

// keyTypes are the types that a map's keys have.
var keyTypes = []int{api.TInt32, api.TInt64, api.TUint32, api.TUint64, api.TSint32, api.TSint64, api.TFixed32, api.TFixed64, api.TSfixed32, api.TSfixed64, api.TBool, api.TString}

// made is a made schema: of its fields the messages are told by their places.
type made struct {
	letter   string // by which its names begin
	messages []madeMessage
}

type madeMessage struct {
	fields []madeField
	gone   []int
}

type madeField struct {
	number, card, typ, key int
	of                     int // of a message: its place
	oneof                  int // 0: none
}

// maker makes schemas, what becomes of them, ways to write them, trees, and scripts of calls.
type maker struct{ *rand.Rand }

func newMaker(seed int64) *maker { return &maker{rand.New(rand.NewSource(seed))} }

// pick is one of many.
func pick[T any](m *maker, l ...T) T { return l[m.Intn(len(l))] }

// often says yes once in so many times.
func (m *maker) often(n int) bool { return m.Intn(n) == 0 }

// mixed is a list in another order.
func mixed[T any](m *maker, l []T) []T {
	l = slices.Clone(l)
	m.Shuffle(len(l), func(i, k int) { l[i], l[k] = l[k], l[i] })
	return l
}

// sources writes a schema: its declarations in any order, over some files, with any blanks and comments.
func (m *maker) sources(s made) []api.Source {
	decls := []string{fmt.Sprintf("enum %sE { Z = 0; A = 1; }", s.letter)}
	for i, in := range s.messages {
		decls = append(decls, m.message(s.letter, i, in))
	}
	files := make([]string, 1+m.Intn(3))
	for _, d := range mixed(m, decls) {
		files[m.Intn(len(files))] += d
	}
	var l []api.Source
	for i, text := range files {
		begin := proto
		for k := range files {
			if k != i {
				begin += fmt.Sprintf("import \"f%d\"; ", k)
			}
		}
		l = append(l, api.Source{Name: fmt.Sprint("f", i), Text: m.blanks(begin + text)})
	}
	return mixed(m, l)
}

// message writes a message.
func (m *maker) message(letter string, place int, in madeMessage) string {
	groups := map[int]string{}
	var lines []string
	for _, f := range mixed(m, in.fields) {
		line := f.text(letter)
		if f.oneof > 0 {
			groups[f.oneof] += line
			continue
		}
		lines = append(lines, line)
	}
	for k := range 100 {
		if groups[k] != "" {
			lines = append(lines, fmt.Sprintf(" oneof o%d {%s }", k, groups[k]))
		}
	}
	for _, n := range in.gone {
		lines = append(lines, fmt.Sprintf(" reserved %d;", n))
	}
	return fmt.Sprintf(" message %s%d {%s } ", letter, place, strings.Join(mixed(m, lines), ""))
}

// blanks writes other blanks for some.
func (m *maker) blanks(text string) string {
	var b strings.Builder
	for _, c := range text {
		if c == ' ' && m.often(5) {
			b.WriteString(pick(m, "\n", "\t ", "  ", " /* no */ ", "// no\n"))
			continue
		}
		b.WriteRune(c)
	}
	return b.String()
}

func (f madeField) text(letter string) string {
	typ := words[f.typ]
	switch f.typ {
	case api.TEnum:
		typ = letter + "E"
	case api.TMessage:
		typ = fmt.Sprint(letter, f.of)
	}
	switch f.card {
	case api.COptional:
		typ = "optional " + typ
	case api.CRepeated:
		typ = "repeated " + typ
	case api.CMap:
		typ = fmt.Sprintf("map<%s, %s>", words[f.key], typ)
	}
	return fmt.Sprintf(" %s f%d = %d;", typ, f.number, f.number)
}

// schema makes a schema of few messages.
func (m *maker) schema() made {
	s := made{"A", make([]madeMessage, 1+m.Intn(4))}
	for i := range s.messages {
		for _, n := range m.Perm(14)[:m.Intn(8)] {
			s.messages[i].fields = append(s.messages[i].fields, m.field(number(n), len(s.messages)))
		}
	}
	return s
}

// number is a field's number of few.
func number(n int) int {
	if n < 12 {
		return n + 1
	}
	return []int{1000, api.MaxNumber}[n-12]
}

// field makes a field of a message that lies among so many.
func (m *maker) field(number, messages int) madeField {
	f := madeField{number: number, card: 1 + m.Intn(4), typ: 1 + m.Intn(17)}
	if m.often(3) {
		f.typ = pick(m, api.TInt32, api.TBool, api.TEnum, api.TString)
	}
	if m.often(3) {
		f.typ = api.TMessage
	}
	if f.typ == api.TMessage {
		f.of = m.Intn(messages)
	}
	if f.card == api.CMap {
		f.key = pick(m, keyTypes...)
	}
	if f.card == api.CSingle {
		f.oneof = pick(m, 0, 1, 1, 2, 3)
	}
	return f
}

// change says how often a schema is changed in a way: once in so many fields; 0 never.
type change struct {
	gone     int  // reserved
	wider    int  // another type, card or oneof that can read it
	optional int  // single and optional ones become one another
	wild     int  // any other field
	fresh    int  // once in so many messages: some new fields
	letter   bool // other names
}

// next makes what becomes of a schema.
func (m *maker) next(old made, by change) made {
	now := made{letter: old.letter}
	if by.letter {
		now.letter = pick(m, "A", "B", "C")
	}
	for _, in := range old.messages {
		now.messages = append(now.messages, m.nextMessage(in, len(old.messages), by))
	}
	return now
}

func (m *maker) chance(n int) bool { return n > 0 && m.often(n) }

// nextMessage makes what becomes of a message.
func (m *maker) nextMessage(old madeMessage, messages int, by change) madeMessage {
	now := madeMessage{gone: slices.Clone(old.gone)}
	used := map[int]int{}
	for _, n := range old.gone {
		used[n]++
	}
	for _, f := range old.fields {
		used[f.number]++
		switch {
		case m.chance(by.gone):
			now.gone = append(now.gone, f.number)
			continue
		case m.chance(by.wild):
			f = m.field(f.number, messages)
		case m.chance(by.wider):
			f = m.wider(f)
		case m.chance(by.optional) && f.card <= api.COptional && f.oneof == 0:
			f.card = api.CSingle + api.COptional - f.card
		}
		now.fields = append(now.fields, f)
	}
	if m.chance(by.fresh) {
		for _, n := range m.Perm(14)[:1+m.Intn(2)] {
			if used[number(n)] == 0 {
				f := m.field(number(n), messages)
				f.oneof = 0
				now.fields = append(now.fields, f)
			}
		}
	}
	return now
}

// wider makes a field one that can read it.
func (m *maker) wider(f madeField) madeField {
	may := map[int][]int{api.TInt32: {api.TInt64}, api.TUint32: {api.TUint64}, api.TSint32: {api.TSint64}, api.TBool: {api.TInt32, api.TInt64, api.TUint32, api.TUint64}}
	if l := may[f.key]; len(l) > 0 {
		f.key = pick(m, l...)
	}
	may[api.TInt32] = append(may[api.TInt32], api.TEnum)
	may[api.TEnum] = []int{api.TInt32, api.TInt64}
	may[api.TString] = []int{api.TBytes}
	if l := may[f.typ]; len(l) > 0 {
		f.typ = pick(m, l...)
	}
	if f.card <= api.COptional && m.often(2) {
		f.card, f.oneof = pick(m, api.COptional, api.CRepeated, api.CSingle), 0
	}
	return f
}

// samples are values of a type, those at its bounds among them.
func samples(typ int) []api.Value {
	var l []api.Value
	nums := func(all ...int) []api.Value {
		for _, n := range all {
			l = append(l, num(n))
		}
		return l
	}
	switch typ {
	case api.TString:
		return []api.Value{text(""), text("a"), text("\x00"), text("é\U0010ffff")}
	case api.TBytes:
		return []api.Value{text(""), text("a"), text("\xff\x00")}
	case api.TBool:
		return nums(0, 1)
	case api.TInt32, api.TSint32, api.TSfixed32, api.TEnum:
		return nums(0, 1, -1, 63, -64, 128, math.MinInt32, math.MaxInt32)
	case api.TUint32, api.TFixed32, api.TFloat:
		return nums(0, 1, 127, 128, 1<<31, math.MaxUint32)
	}
	return nums(0, 1, -1, 1<<31, 1<<32, math.MinInt, math.MaxInt)
}

// tree makes a message in which others lie so many levels deep.
func (m *maker) tree(s *bind.Schema, name string, levels int) api.Value {
	info, _ := s.Message(name)
	v := msg()
	for _, f := range info.Fields {
		if f.Type == api.TMessage && levels <= 1 || m.often(4) {
			continue
		}
		value := func() api.Value {
			if f.Type == api.TMessage {
				return m.tree(s, f.Of, levels-1)
			}
			return pick(m, samples(f.Type)...)
		}
		x := value()
		if f.Card == api.CRepeated {
			x = list()
			for range m.Intn(4) {
				x.List = append(x.List, value())
			}
		} else if f.Card == api.CMap {
			x = dict()
			for range m.Intn(4) {
				x.List = append(x.List, pair(pick(m, samples(f.Key)...), value()))
			}
		}
		v.Fields = append(v.Fields, at(f.Number, x))
	}
	return v
}

// written makes the canonical bytes of a tree of a type.
func (m *maker) written(t testing.TB, s *bind.Schema, name string) []byte {
	t.Helper()
	v, _, e := tree.Normalise(s, name, m.tree(s, name, 1+m.Intn(4)))
	if e != api.OK {
		t.Fatal(e)
	}
	b, e := encode.New(s).Encode(name, v)
	if e != api.OK {
		t.Fatal(e)
	}
	return b
}
