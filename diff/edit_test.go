package diff_test

import (
	"math"
	"strings"
	"testing"

	"sigil/api"
)

func TestRightEdits(t *testing.T) { // P1901: edits of each Kind and of none, with Values, At and Out of every sort
	s := smallSchema()
	a := msg(at(1, num(5)), at(3, nums(1, 2, 3)))
	values := [][]api.Value{nil, {}, {nums(7)}, {num(7)}, {nums(7), nums(8)}, {num(7), num(8)}, {{}}}
	places := []int{math.MinInt, -1, 0, 1, 2, math.MaxInt}
	for _, kind := range []int{math.MinInt, -1, 0, api.ESet, api.EClear, api.ESplice, 4, 5, 9, 255, 257, math.MaxInt} {
		for _, l := range values {
			for _, from := range places {
				for _, out := range places {
					edit := api.Edit{Kind: kind, Path: "c", At: from, Out: out, Values: l}
					right := false
					switch kind {
					case api.ESet:
						right = len(l) == 1 && from == 0 && out == 0
					case api.EClear:
						right = len(l) == 0 && from == 0 && out == 0
					case api.ESplice:
						right = from >= 0 && out >= 0
					}
					if right {
						allowed(t, a, edit)
						continue
					}
					refuses(t, s, "p.M", a, api.ErrEdit, edit)
					// One that is not right is told ahead of all that is refused when it is done, and of what the tree is.
					refuses(t, s, "p.M", a, api.ErrEdit, drop("b"), drop("."), edit)
					refuses(t, s, "p.M", one(1, text("")), api.ErrEdit, edit)
				}
			}
		}
	}
}

// allowed looks whether an edit of the list c is right: it is done, or what is said against it is said by the tree.
func allowed(t *testing.T, a api.Value, edit api.Edit) {
	t.Helper()
	s := smallSchema()
	length := len(a.Fields[1].Value.List)
	want := api.OK
	switch {
	case edit.Kind == api.ESet && edit.Values[0].Kind != api.VList:
		want = api.ErrType
	case edit.Kind == api.ESplice && (edit.At > length || edit.Out > length-edit.At):
		want = api.ErrBase
	case edit.Kind == api.ESplice && len(edit.Values) > 0 && edit.Values[0].Kind != api.VNum:
		want = api.ErrType
	}
	if want != api.OK {
		refuses(t, s, "p.M", a, want, edit)
		return
	}
	switch edit.Kind {
	case api.ESet:
		applies(t, s, "p.M", a, msg(at(1, num(5)), at(3, edit.Values[0])), edit)
	case api.EClear:
		applies(t, s, "p.M", a, one(1, num(5)), edit)
	case api.ESplice:
		l := append(append([]api.Value{}, a.Fields[1].Value.List[:edit.At]...), edit.Values...)
		applies(t, s, "p.M", a, msg(at(1, num(5)), at(3, list(append(l, a.Fields[1].Value.List[edit.At+edit.Out:]...)...))), edit)
	}
}

// keyOf is a path of so many bytes to a key of the map d of p.M, with more behind it; and the key.
func keyOf(size int, behind string) (string, string) {
	key := strings.Repeat("k", size-len(`d[""]`)-len(behind))
	return `d["` + key + `"]` + behind, key
}

func TestLongestPaths(t *testing.T) { // P1901: edits with paths of MaxPath bytes and one more
	s := smallSchema()
	p, key := keyOf(api.MaxPath, "")
	q, under := keyOf(api.MaxPath, ".c")
	applies(t, s, "p.M", msg(), one(4, dict(kv(key, msg()))), set(p, msg()))
	applies(t, s, "p.M", one(4, dict(kv(key, msg()))), msg(), drop(p))
	refuses(t, s, "p.M", msg(), api.ErrBase, drop(p))
	refuses(t, s, "p.M", one(4, dict(kv(key, msg()))), api.ErrBase, splice(p, 0, 0))
	applies(t, s, "p.M", one(4, dict(kv(under, msg()))), one(4, dict(kv(under, one(3, nums(1))))), splice(q, 0, 0, num(1)))
	refuses(t, s, "p.M", msg(), api.ErrBase, splice(q, 0, 0, num(1)))
	for _, long := range []string{strings.Replace(p, "k", "kk", 1), strings.Replace(q, "k", "kk", 1), strings.Repeat("x", api.MaxPath+1), strings.Repeat(".", 1<<20), strings.Repeat("g.", 512) + "c"} {
		refuses(t, s, "p.M", msg(), api.ErrEdit, set(long, num(1)))
		refuses(t, s, "p.M", msg(), api.ErrEdit, drop(long))
		refuses(t, s, "p.M", msg(), api.ErrEdit, splice(long, 0, 0))
		refuses(t, s, "p.M", msg(), api.ErrEdit, set("z", num(1)), drop(long))
	}
	// As long as may be, and no path.
	for _, wrong := range []string{strings.Repeat("x", api.MaxPath), strings.Repeat(".", api.MaxPath), strings.Repeat("\x00", api.MaxPath)} {
		refuses(t, s, "p.M", msg(), api.ErrStep, set(wrong, num(1)))
		refuses(t, s, "p.M", msg(), api.ErrStep, drop(wrong))
		refuses(t, s, "p.M", msg(), api.ErrStep, splice(wrong, 0, 0))
	}
	deep := strings.Repeat("g.", 511) + "c" // 512 steps: a tree may not be so deep
	refuses(t, s, "p.M", msg(), api.ErrDepth, set(deep, nums(1)))
	refuses(t, s, "p.M", msg(), api.ErrBase, drop(deep))
	refuses(t, s, "p.M", msg(), api.ErrBase, splice(deep, 0, 0))
}
