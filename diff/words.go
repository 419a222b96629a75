package diff

import (
	"strconv"
	"strings"

	"sigil/api"
	"sigil/scan"
)

// words are the words of the scalars, by type.
var words = [...]string{
	api.TDouble:   "double",
	api.TFloat:    "float",
	api.TInt32:    "int32",
	api.TInt64:    "int64",
	api.TUint32:   "uint32",
	api.TUint64:   "uint64",
	api.TSint32:   "sint32",
	api.TSint64:   "sint64",
	api.TFixed32:  "fixed32",
	api.TFixed64:  "fixed64",
	api.TSfixed32: "sfixed32",
	api.TSfixed64: "sfixed64",
	api.TBool:     "bool",
	api.TString:   "string",
	api.TBytes:    "bytes",
}

// typeWord tells the word of a field's type.
func typeWord(f api.Field) string {
	word := "." + f.Of
	if f.Of == "" {
		word = words[f.Type]
	}
	if f.Card == api.CMap {
		return "map<" + words[f.Key] + ", " + word + ">"
	}
	return word
}

// cardWord tells the word of a card.
func cardWord(card int) string {
	switch card {
	case api.COptional:
		return "optional"
	case api.CRepeated:
		return "repeated"
	case api.CMap:
		return "map"
	}
	return "single"
}

// fieldText tells a field as it is declared, without its number.
func fieldText(f api.Field) string {
	text := typeWord(f) + " " + f.Name
	if f.Card == api.COptional || f.Card == api.CRepeated {
		return cardWord(f.Card) + " " + text
	}
	return text
}

// reservedText tells what is reserved. The greatest number that may be is most.
func reservedText(rows []api.Range, most int, gone []string) string {
	var l []string
	for _, r := range rows {
		l = append(l, rowText(r, most))
	}
	for _, name := range gone {
		l = append(l, scan.Quote(name))
	}
	return strings.Join(l, ", ")
}

// rowText tells a row as package print writes it.
func rowText(r api.Range, most int) string {
	from := strconv.Itoa(r.From)
	switch r.To {
	case r.From:
		return from
	case most:
		return from + " to max"
	}
	return from + " to " + strconv.Itoa(r.To)
}
