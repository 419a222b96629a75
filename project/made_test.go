package project_test

import (
	"fmt"
	"math"
	"math/rand"
	"slices"
	"strings"
	"testing"

	"sigil/api"
	"sigil/bind"
	"sigil/tree"
)

// made is a made schema: of its fields the messages are told by their places.
type made struct{ messages []madeMessage }

type madeMessage struct {
	fields []madeField
	gone   []int
}

type madeField struct {
	number, card, typ, key int
	of                     int // of a message: its place
	oneof                  int // 0: none
}

// text is the text of the schema; a letter begins its names.
func (s made) text(letter string) string {
	var b strings.Builder
	fmt.Fprintf(&b, "enum %sE { Z = 0; A = 1; }", letter)
	for i, m := range s.messages {
		fmt.Fprintf(&b, " message %s%d {", letter, i)
		groups := map[int]string{}
		for _, f := range m.fields {
			if f.oneof > 0 {
				groups[f.oneof] += f.text(letter)
			} else {
				b.WriteString(f.text(letter))
			}
		}
		for k := range 100 {
			if groups[k] != "" {
				fmt.Fprintf(&b, " oneof o%d {%s }", k, groups[k])
			}
		}
		for _, n := range m.gone {
			fmt.Fprintf(&b, " reserved %d;", n)
		}
		b.WriteString(" }")
	}
	return b.String()
}

func (f madeField) text(letter string) string {
	typ := words[f.typ]
	switch f.typ {
	case api.TEnum:
		typ = letter + "E"
	case api.TMessage:
		typ = fmt.Sprint(letter, f.of)
	}
	switch f.card {
	case api.COptional:
		typ = "optional " + typ
	case api.CRepeated:
		typ = "repeated " + typ
	case api.CMap:
		typ = fmt.Sprintf("map<%s, %s>", words[f.key], typ)
	}
	return fmt.Sprintf(" %s f%d = %d;", typ, f.number, f.number)
}

// maker makes schemas, what becomes of them, and trees.
type maker struct{ *rand.Rand }

func newMaker(seed int64) *maker { return &maker{rand.New(rand.NewSource(seed))} }

// pick is one of many.
func pick[T any](m *maker, l ...T) T { return l[m.Intn(len(l))] }

// often says yes once in so many times.
func (m *maker) often(n int) bool { return m.Intn(n) == 0 }

// schema makes a schema of few messages.
func (m *maker) schema() made {
	s := made{make([]madeMessage, 1+m.Intn(5))}
	for i := range s.messages {
		for _, n := range m.Perm(14)[:m.Intn(11)] {
			s.messages[i].fields = append(s.messages[i].fields, m.field(number(n), len(s.messages)))
		}
	}
	return s
}

// number is a field's number of few.
func number(n int) int {
	if n < 12 {
		return n + 1
	}
	return []int{1000, api.MaxNumber}[n-12]
}

// field makes a field of a message that lies among so many.
func (m *maker) field(number, messages int) madeField {
	f := madeField{number: number, card: 1 + m.Intn(4), typ: 1 + m.Intn(17)}
	if m.often(3) {
		f.typ = pick(m, api.TInt32, api.TBool, api.TEnum, api.TString)
	}
	if m.often(3) {
		f.typ = api.TMessage
	}
	if f.typ == api.TMessage {
		f.of = m.Intn(messages)
	}
	if f.card == api.CMap {
		f.key = pick(m, keyTypes...)
	}
	if f.card == api.CSingle {
		f.oneof = pick(m, 0, 1, 1, 2, 3)
	}
	return f
}

// change says how a schema is changed: each once in so many times; 0 never.
type change struct {
	gone, implicit int // a field that is lost, or whose zero is
	wild           int // a field that becomes any other
}

// The changes: those that the rules let pass, those of them by which nothing is lost, and some that break rules.
var (
	fair   = change{gone: 8, implicit: 2}
	frugal = change{}
	wild   = change{gone: 8, implicit: 2, wild: 10}
)

func (m *maker) chance(n int) bool { return n > 0 && m.often(n) }

// next makes what becomes of a schema.
func (m *maker) next(old made, by change) made {
	var now made
	from := []int{} // of each message the one of which it is made
	for i := range old.messages {
		from = append(from, i)
	}
	for range m.Intn(3) {
		from = append(from, m.Intn(len(old.messages)))
	}
	for _, i := range from {
		now.messages = append(now.messages, m.nextMessage(old.messages[i], len(old.messages), by))
	}
	for _, in := range now.messages {
		for k, f := range in.fields {
			if f.typ == api.TMessage {
				like := slices.DeleteFunc(m.Perm(len(from)), func(i int) bool { return from[i] != f.of })
				in.fields[k].of = like[0]
			}
			if f.typ == api.TMessage && m.chance(by.wild) {
				in.fields[k].of = m.Intn(len(from))
			}
		}
	}
	return now
}

// nextMessage makes what becomes of a message.
func (m *maker) nextMessage(old madeMessage, messages int, by change) madeMessage {
	now := madeMessage{gone: slices.Clone(old.gone)}
	fresh := 50 // oneofs that no other field of the old type is in
	used := map[int]int{}
	for _, n := range old.gone {
		used[n]++
	}
	for _, f := range old.fields {
		used[f.number]++
		switch {
		case m.chance(by.gone):
			now.gone = append(now.gone, f.number)
			continue
		case m.chance(by.wild):
			now.fields = append(now.fields, m.field(f.number, messages))
			continue
		}
		f.typ = m.widened(f.typ, typeChanges)
		f.key = m.widened(f.key, keyChanges)
		if f.card <= api.COptional && m.often(2) {
			f = m.other(f, by, &fresh)
		}
		now.fields = append(now.fields, f)
	}
	for _, n := range m.Perm(14)[:m.Intn(4)] {
		if used[number(n)] == 0 {
			f := m.field(number(n), messages)
			if f.oneof > 0 {
				f.oneof = pick(m, 0, 1, 2, 51, 52)
			}
			now.fields = append(now.fields, f)
		}
	}
	m.Shuffle(len(now.fields), func(i, k int) { now.fields[i], now.fields[k] = now.fields[k], now.fields[i] })
	return now
}

// other makes a single or optional field one of another card or oneof.
func (m *maker) other(f madeField, by change, fresh *int) madeField {
	explicit := f.card == api.COptional || f.oneof > 0
	cards := []int{api.COptional, api.CRepeated, api.CSingle}
	f.card = pick(m, cards...)
	was := f.oneof
	f.oneof = 0
	switch {
	case f.card != api.CSingle:
	case m.often(2) || explicit && f.typ != api.TMessage && !m.chance(by.implicit):
		*fresh++
		f.oneof = *fresh
	case m.often(2):
		f.oneof = was
	}
	return f
}

// What a type, and a key, may become.
var (
	keyChanges  = map[int][]int{api.TInt32: {api.TInt64}, api.TUint32: {api.TUint64}, api.TSint32: {api.TSint64}, api.TBool: {api.TInt32, api.TInt64, api.TUint32, api.TUint64}}
	typeChanges = map[int][]int{api.TInt32: {api.TInt64, api.TEnum}, api.TUint32: {api.TUint64}, api.TSint32: {api.TSint64}, api.TBool: {api.TInt32, api.TInt64, api.TUint32, api.TUint64}, api.TEnum: {api.TInt32, api.TInt64}, api.TString: {api.TBytes}}
)

// widened is what a type may become.
func (m *maker) widened(typ int, may map[int][]int) int {
	if l := may[typ]; len(l) > 0 && m.often(2) {
		return pick(m, l...)
	}
	return typ
}

// samples are values of a type, those at its bounds among them.
func samples(typ int) []api.Value {
	var l []api.Value
	nums := func(all ...int) []api.Value {
		for _, n := range all {
			l = append(l, num(n))
		}
		return l
	}
	switch typ {
	case api.TString:
		return []api.Value{text(""), text("a"), text("\x00"), text("é\U0010ffff")}
	case api.TBytes:
		return []api.Value{text(""), text("a"), text("\xff\x00")}
	case api.TMessage:
		return []api.Value{msg(), one(2, num(0)), one(2, num(7))}
	case api.TBool:
		return nums(0, 1)
	case api.TInt32, api.TSint32, api.TSfixed32, api.TEnum:
		return nums(0, 1, -1, 63, -64, 64, 128, math.MinInt32, math.MaxInt32)
	case api.TFloat:
		return nums(0, 1<<31, 0x3f800000, 0x7fc00000, math.MaxUint32)
	case api.TUint32, api.TFixed32:
		return nums(0, 1, 127, 128, 1<<31, math.MaxUint32)
	}
	return nums(0, 1, -1, 1<<31, 1<<32, math.MinInt, math.MaxInt, math.MinInt32, math.MaxUint32)
}

// tree makes a message in which others lie so many levels deep.
func (m *maker) tree(s *bind.Schema, name string, levels int) api.Value {
	info, _ := s.Message(name)
	v := msg()
	for _, f := range info.Fields {
		if f.Type == api.TMessage && levels <= 1 || m.often(4) {
			continue
		}
		value := func() api.Value {
			if f.Type == api.TMessage {
				return m.tree(s, f.Of, levels-1)
			}
			return pick(m, samples(f.Type)...)
		}
		x := value()
		if f.Card == api.CRepeated {
			x = list()
			for range m.Intn(4) {
				x.List = append(x.List, value())
			}
		} else if f.Card == api.CMap {
			x = dict()
			for range m.Intn(4) {
				x.List = append(x.List, pair(pick(m, samples(f.Key)...), value()))
			}
		}
		v.Fields = append(v.Fields, at(f.Number, x))
	}
	m.Shuffle(len(v.Fields), func(i, k int) { v.Fields[i], v.Fields[k] = v.Fields[k], v.Fields[i] })
	return v
}

// normal makes a normal tree of a type.
func (m *maker) normal(t testing.TB, s *bind.Schema, name string) api.Value {
	t.Helper()
	v, _, e := tree.Normalise(s, name, m.tree(s, name, 1+m.Intn(4)))
	if e != api.OK {
		t.Fatal(e)
	}
	return v
}

// broken makes a tree wrong in something, perhaps.
func (m *maker) broken(v api.Value) api.Value {
	if len(v.Fields) > 0 && m.often(2) {
		i := m.Intn(len(v.Fields))
		fields := slices.Clone(v.Fields)
		fields[i].Value = m.broken(fields[i].Value)
		v.Fields = fields
		return v
	}
	switch m.Intn(5) {
	case 0:
		v.Fields = slices.Concat(v.Fields, v.Fields)
	case 1:
		v.Num++
	case 2:
		v.Kind = m.Intn(8)
	case 3:
		v.List = append(slices.Clone(v.List), list())
	default:
		v.Fields = append(slices.Clone(v.Fields), at(1+m.Intn(13), num(0)))
	}
	return v
}

// ways are all ways between the types of two schemas.
func ways(t testing.TB, old, now string) []way {
	a, b := load(t, old), load(t, now)
	var l []way
	for _, wrote := range a.Messages() {
		for _, reads := range b.Messages() {
			l = append(l, way{a, wrote, b, reads})
		}
	}
	return l
}
