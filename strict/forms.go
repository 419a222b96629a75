package strict

import (
	"math"
	"strings"

	"sigil/api"
	"sigil/wire"
)

// form is how the values of a type stand in bytes: the wire kind, and what reads a value behind a tag; of a message that of the type of a name.
type form struct {
	kind int
	read func(p *part, of string) api.Value
}

// table makes the table of the forms, by type.
func (r *reading) table() [api.TMessage + 1]form {
	return [...]form{
		api.TDouble:   fixed(api.WFixed64, 8, itself),
		api.TFloat:    fixed(api.WFixed32, 4, itself),
		api.TInt32:    varint(math.MinInt32, math.MaxInt32, itself),
		api.TInt64:    varint(math.MinInt, math.MaxInt, itself),
		api.TUint32:   varint(0, math.MaxUint32, itself),
		api.TUint64:   varint(math.MinInt, math.MaxInt, itself),
		api.TSint32:   varint(0, math.MaxUint32, wire.Zag),
		api.TSint64:   varint(math.MinInt, math.MaxInt, wire.Zag),
		api.TFixed32:  fixed(api.WFixed32, 4, itself),
		api.TFixed64:  fixed(api.WFixed64, 8, itself),
		api.TSfixed32: fixed(api.WFixed32, 4, func(bits int) int { return int(int32(bits)) }),
		api.TSfixed64: fixed(api.WFixed64, 8, itself),
		api.TBool:     varint(0, 1, itself),
		api.TString: {api.WText, func(p *part, _ string) api.Value {
			v := r.text(p)
			if bad := wire.Utf8(v.Text); bad >= 0 {
				refuse(p.place()-len(v.Text)+bad, api.ErrUtf8)
			}
			return v
		}},
		api.TBytes:   {api.WText, func(p *part, _ string) api.Value { return r.text(p) }},
		api.TEnum:    varint(math.MinInt32, math.MaxInt32, itself),
		api.TMessage: {api.WText, func(p *part, of string) api.Value { return r.message(p.span(p.level+1), of) }},
	}
}

// itself is the number whose bits stand as they are.
func itself(bits int) int { return bits }

// varint is the form of numbers whose varints lie in these bounds; meant tells the number.
func varint(least, most int, meant func(bits int) int) form {
	return form{api.WVarint, func(p *part, _ string) api.Value {
		at, bits := p.place(), p.varint()
		if bits < least || bits > most {
			refuse(at, api.ErrForm)
		}
		return api.Value{Kind: api.VNum, Num: meant(bits)}
	}}
}

// fixed is the form of numbers of so many bytes.
func fixed(kind, size int, meant func(bits int) int) form {
	return form{kind, func(p *part, _ string) api.Value {
		return api.Value{Kind: api.VNum, Num: meant(p.fixed(size))}
	}}
}

// text reads a text. One that is kept is copied: else it would hold all bytes of the part in which it stands, and so would those of every part around it.
func (r *reading) text(p *part) api.Value {
	s := p.text()
	if r.keep {
		s = strings.Clone(s)
	}
	return api.Value{Kind: api.VText, Text: s}
}
