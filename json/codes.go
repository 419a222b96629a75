package json

import (
	"slices"
	"strconv"
	"strings"

	"sigil/api"
	"sigil/digest"
	"sigil/wire"
)

// code is how single values are told by texts.
type code struct {
	tell func(v *api.Value) string
	mean func(text string) (api.Value, api.Errno) // the value of a text, or why it is none
}

// quotedForm is the form in which the texts are written as strings; those of some kinds are read.
func (c code) quotedForm(kinds string) form {
	return form{func(w *writer, v *api.Value) { w.put(quoted(c.tell(v))) }, c.reads(kinds)}
}

// bareForm is the form in which the texts are written as they are.
func (c code) bareForm(kinds string) form {
	return form{func(w *writer, v *api.Value) { w.put(c.tell(v)) }, c.reads(kinds)}
}

// reads reads the text that a token of one of some kinds says.
func (c code) reads(kinds string) func(r *reader) api.Value {
	return func(r *reader) api.Value {
		at, text := r.said(kinds)
		v, e := c.mean(text)
		if e != api.OK {
			refuse(at, e)
		}
		return v
	}
}

// keyCode tells the code of a type of keys.
func keyCode(typ int) code {
	switch typ {
	case api.TBool:
		return truth()
	case api.TString:
		return itself()
	}
	return whole(typ)
}

// num is a number as a value.
func num(n int) api.Value { return api.Value{Kind: api.VNum, Num: n} }

// itself is the code of texts that stand for themselves. What is read is a copy: else it would hold the whole text in which it stands.
func itself() code {
	return code{
		func(v *api.Value) string { return v.Text },
		func(text string) (api.Value, api.Errno) {
			return api.Value{Kind: api.VText, Text: strings.Clone(text)}, api.OK
		},
	}
}

// truth is the code of TBool.
func truth() code {
	return code{
		func(v *api.Value) string { return strconv.FormatBool(v.Num == 1) },
		func(text string) (api.Value, api.Errno) {
			switch text {
			case "true":
				return num(1), api.OK
			case "false":
				return num(0), api.OK
			}
			return api.Value{}, api.ErrShape
		},
	}
}

// bits is the code of numbers that are told by their bits, in so many bytes.
func bits(size int) code {
	return code{
		func(v *api.Value) string {
			b, _ := wire.Fixed(v.Num, size)
			slices.Reverse(b)
			return digest.Hex(b)
		},
		func(text string) (api.Value, api.Errno) {
			b, e := digest.Unhex(text)
			if e != api.OK || len(b) != size {
				return api.Value{}, api.ErrJsonNumber
			}
			n := 0
			for _, c := range b {
				n = n<<8 | int(c)
			}
			return num(n), api.OK
		},
	}
}

// code is the code of the enum's values that have names.
func (d *enum) code() code {
	return code{
		func(v *api.Value) string { return d.names[v.Num].Name },
		func(text string) (api.Value, api.Errno) {
			n, ok := d.numbers[text]
			if !ok {
				return api.Value{}, api.ErrJsonEnum
			}
			return num(n), api.OK
		},
	}
}

// whole is the code of a type of whole numbers, or of the numbers of enums.
func whole(typ int) code {
	switch typ {
	case api.TUint32, api.TFixed32:
		return unsigned(32)
	case api.TUint64, api.TFixed64:
		return unsigned(64)
	case api.TInt64, api.TSint64, api.TSfixed64:
		return signed(64)
	}
	return signed(32)
}

func signed(bits int) code {
	return integers(strconv.Itoa, func(text string) int {
		n, _ := strconv.ParseInt(text, 10, bits)
		return int(n)
	})
}

func unsigned(bits int) code {
	tell := func(n int) string { return strconv.FormatUint(uint64(n), 10) }
	return integers(tell, func(text string) int {
		n, _ := strconv.ParseUint(text, 10, bits)
		return int(n)
	})
}

// integers is the code of numbers by integer texts. Whatever is read from a text, it means this only if it is what is told of it: so neither a text of another form means anything, nor one beyond the bounds, from which a number within them is read.
func integers(tell func(n int) string, read func(text string) int) code {
	return code{
		func(v *api.Value) string { return tell(v.Num) },
		func(text string) (api.Value, api.Errno) {
			n := read(text)
			if tell(n) != text {
				return api.Value{}, api.ErrJsonNumber
			}
			return num(n), api.OK
		},
	}
}
