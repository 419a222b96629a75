package view

import (
	"sigil/api"
	"sigil/wire"
)

// form is how the values of a type stand in records: the wire kind, and what records of one value say, one behind the other.
type form struct {
	kind int
	says func(l *lens, f api.Field, depth int, records []record) held
}

// forms makes the table of the forms, by type.
func forms() [api.TMessage + 1]form {
	return [...]form{
		api.TDouble:   number(api.WFixed64, plain),
		api.TFloat:    number(api.WFixed32, plain),
		api.TInt32:    number(api.WVarint, signed),
		api.TInt64:    number(api.WVarint, plain),
		api.TUint32:   number(api.WVarint, low),
		api.TUint64:   number(api.WVarint, plain),
		api.TSint32:   number(api.WVarint, func(bits int) int { return wire.Zag(low(bits)) }),
		api.TSint64:   number(api.WVarint, wire.Zag),
		api.TFixed32:  number(api.WFixed32, plain),
		api.TFixed64:  number(api.WFixed64, plain),
		api.TSfixed32: number(api.WFixed32, signed),
		api.TSfixed64: number(api.WFixed64, plain),
		api.TBool:     number(api.WVarint, truth),
		api.TString:   text(true),
		api.TBytes:    text(false),
		api.TEnum:     number(api.WVarint, signed),
		api.TMessage:  {api.WText, inner},
	}
}

// number is the form of numbers; meant tells the one that bits mean.
func number(kind int, meant func(bits int) int) form {
	return form{kind, func(_ *lens, _ api.Field, _ int, records []record) held {
		return scalar{kind: api.VNum, num: meant(last(records).num)}
	}}
}

// text is the form of texts, which must be UTF-8 or not.
func text(utf8 bool) form {
	return form{api.WText, func(_ *lens, _ api.Field, _ int, records []record) held {
		return scalar{kind: api.VText, text: last(records).text, utf8: utf8}
	}}
}

// last is the last of some records. Of none it is one that says the zero, whatever its type is.
func last(records []record) record {
	if len(records) == 0 {
		return record{}
	}
	return records[len(records)-1]
}

// inner tells the message whose pieces are the contents of records.
func inner(l *lens, f api.Field, depth int, records []record) held {
	m := message{lens: l, of: f.Of, depth: depth + 1}
	for _, r := range records {
		m.pieces = append(m.pieces, r.text)
	}
	return m
}

// plain is the number of all bits, low that of the low 32, signed that of these with a sign.
func plain(bits int) int  { return bits }
func low(bits int) int    { return int(uint32(bits)) }
func signed(bits int) int { return int(int32(bits)) }

// truth is 0 or 1: whether a bit is set.
func truth(bits int) int {
	if bits != 0 {
		return 1
	}
	return 0
}
