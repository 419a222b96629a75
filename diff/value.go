package diff

import (
	"strings"

	"sigil/api"
)

// count tells how many values a tree has, as P6 counts them.
func count(v *api.Value) int {
	n := 1
	for i := range v.List {
		n += count(&v.List[i])
	}
	for i := range v.Fields {
		n += count(&v.Fields[i].Value)
	}
	return n
}

// owned tells a tree that has nothing of what was handed in, its texts neither.
func owned(v *api.Value) api.Value {
	out := api.Value{Kind: v.Kind, Num: v.Num, Text: strings.Clone(v.Text)}
	if len(v.List) > 0 {
		out.List = make([]api.Value, len(v.List))
	}
	for i := range v.List {
		out.List[i] = owned(&v.List[i])
	}
	if len(v.Fields) > 0 {
		out.Fields = make([]api.Entry, len(v.Fields))
	}
	for i := range v.Fields {
		out.Fields[i] = api.Entry{Number: v.Fields[i].Number, Value: owned(&v.Fields[i].Value)}
	}
	return out
}
