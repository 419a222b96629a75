package diff

import (
	"cmp"
	"math"
	"slices"

	"sigil/api"
	"sigil/bind"
)

// declared is a message or an enum of a schema, as far as it is held against another.
type declared struct {
	name     string
	word     string   // message or enum
	members  []member // by rising number
	reserved string
}

// member is a field of a message or a value of an enum. What a value has not is empty.
type member struct {
	number                 int
	text                   string // what is told of it where the other has none
	typ, card, name, oneof string
}

func byName(x, y *declared) int { return cmp.Compare(x.name, y.name) }

func byNumber(x, y *member) int { return cmp.Compare(x.number, y.number) }

// types are the messages and enums of a schema, by rising name.
func types(s *bind.Schema) []declared {
	var l []declared
	for _, name := range s.Messages() {
		l = append(l, message(s, name))
	}
	for _, name := range s.Enums() {
		l = append(l, enum(s, name))
	}
	slices.SortFunc(l, func(x, y declared) int { return byName(&x, &y) })
	return l
}

func message(s *bind.Schema, name string) declared {
	m, _ := s.Message(name)
	d := declared{name: name, word: "message", reserved: reservedText(m.Reserved, api.MaxNumber, m.Gone)}
	for _, f := range m.Fields {
		in := member{number: f.Number, text: fieldText(f), typ: typeWord(f), card: cardWord(f.Card), name: f.Name}
		if f.Oneof > 0 {
			in.oneof = m.Oneofs[f.Oneof-1]
		}
		d.members = append(d.members, in)
	}
	return d
}

func enum(s *bind.Schema, name string) declared {
	m, _ := s.Enum(name)
	d := declared{name: name, word: "enum", reserved: reservedText(m.Reserved, math.MaxInt32, m.Gone)}
	for _, v := range m.Values {
		d.members = append(d.members, member{number: v.Number, text: v.Name, name: v.Name})
	}
	// In a schema the zero comes first.
	slices.SortFunc(d.members, func(x, y member) int { return byNumber(&x, &y) })
	return d
}

// changes tells the changes of what has one name in two schemas; nil is what a schema has not.
func changes(old, now *declared) []api.Change {
	switch {
	case old == nil:
		return []api.Change{{Kind: api.CAdded, Type: now.name, New: now.word}}
	case now == nil:
		return []api.Change{{Kind: api.CGone, Type: old.name, Old: old.word}}
	case old.word != now.word:
		return []api.Change{{Kind: api.CType, Type: old.name, Old: old.word, New: now.word}}
	}
	var l []api.Change
	for x, y := range beside(old.members, now.members, byNumber) {
		l = append(l, memberChanges(x, y)...)
	}
	l = append(l, unlike(api.CReserved, old.reserved, now.reserved)...)
	for i := range l {
		l[i].Type = old.name
	}
	return l
}

// memberChanges tells the changes of what has one number, without the type's name.
func memberChanges(old, now *member) []api.Change {
	switch {
	case old == nil:
		return []api.Change{{Kind: api.CAdded, Number: now.number, New: now.text}}
	case now == nil:
		return []api.Change{{Kind: api.CGone, Number: old.number, Old: old.text}}
	}
	l := slices.Concat(
		unlike(api.CType, old.typ, now.typ),
		unlike(api.CCard, old.card, now.card),
		unlike(api.CName, old.name, now.name),
		unlike(api.COneof, old.oneof, now.oneof),
	)
	for i := range l {
		l[i].Number = old.number
	}
	return l
}

// unlike tells a change from one text to another, if they are not the same.
func unlike(kind int, old, now string) []api.Change {
	if old == now {
		return nil
	}
	return []api.Change{{Kind: kind, Old: old, New: now}}
}
