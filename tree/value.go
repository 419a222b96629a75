package tree

import (
	"strings"

	"sigil/api"
)

// parts tells how many values hang on a value itself.
func parts(v *api.Value) int { return len(v.List) + len(v.Fields) }

// part tells one of them: those of the list come first.
func part(v *api.Value, i int) *api.Value {
	if i < len(v.List) {
		return &v.List[i]
	}
	return &v.Fields[i-len(v.List)].Value
}

// step tells what a part of a typed value has in its trail behind the value's own.
func step(v *api.Value, i int) int {
	switch v.Kind {
	case api.VMessage:
		return v.Fields[i].Number
	case api.VPair:
		return i + 1
	}
	return i
}

// pure says whether a value holds nothing that its kind does not name.
func pure(v *api.Value) bool {
	listed := v.Kind == api.VList || v.Kind == api.VMap || v.Kind == api.VPair
	return (v.Num == 0 || v.Kind == api.VNum) &&
		(v.Text == "" || v.Kind == api.VText) &&
		(len(v.List) == 0 || listed) &&
		(len(v.Fields) == 0 || v.Kind == api.VMessage)
}

// copied tells a value with lists of its own. Texts are shared: they never change.
func copied(v *api.Value) api.Value { return remade(v, func(text string) string { return text }) }

// owned tells a value that has nothing of what was handed in, its texts neither.
func owned(v *api.Value) api.Value { return remade(v, strings.Clone) }

// remade tells a value with lists of its own, and what is made of its texts.
func remade(v *api.Value, text func(string) string) api.Value {
	out := api.Value{Kind: v.Kind, Num: v.Num, Text: text(v.Text)}
	if len(v.List) > 0 {
		out.List = make([]api.Value, len(v.List))
	}
	for i := range v.List {
		out.List[i] = remade(&v.List[i], text)
	}
	if len(v.Fields) > 0 {
		out.Fields = make([]api.Entry, len(v.Fields))
	}
	for i := range v.Fields {
		out.Fields[i] = api.Entry{Number: v.Fields[i].Number, Value: remade(&v.Fields[i].Value, text)}
	}
	return out
}
