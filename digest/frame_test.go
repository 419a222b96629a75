package digest_test

import (
	"bytes"
	"encoding/binary"
	"math/rand"
	"slices"
	"testing"

	"sigil/api"
	"sigil/digest"
)

const maxFrame = 1 << 26

func words(l ...string) [][]byte {
	var parts [][]byte
	for _, s := range l {
		parts = append(parts, []byte(s))
	}
	return parts
}

func same(a, b [][]byte) bool {
	return slices.EqualFunc(a, b, func(x, y []byte) bool { return bytes.Equal(x, y) })
}

// modelFrame goes by the chapter's words, whatever the bounds are.
func modelFrame(parts [][]byte) []byte {
	b := binary.LittleEndian.AppendUint32(nil, uint32(len(parts)))
	for _, p := range parts {
		b = append(binary.LittleEndian.AppendUint32(b, uint32(len(p))), p...)
	}
	return b
}

func someParts(r *rand.Rand) [][]byte {
	parts := make([][]byte, r.Intn(7))
	for i := range parts {
		parts[i] = noise(r.Int63(), r.Intn(3)*r.Intn(200))
	}
	return parts
}

func TestFrame(t *testing.T) { // P305, P306
	for _, c := range []struct {
		parts [][]byte
		want  []byte
	}{
		{nil, []byte{0, 0, 0, 0}},
		{[][]byte{}, []byte{0, 0, 0, 0}},
		{words("ab", ""), []byte{2, 0, 0, 0, 2, 0, 0, 0, 97, 98, 0, 0, 0, 0}},
		{[][]byte{nil}, []byte{1, 0, 0, 0, 0, 0, 0, 0}},
		{[][]byte{{}, nil}, []byte{2, 0, 0, 0, 0, 0, 0, 0, 0, 0, 0, 0}},
		{words("", "ab"), []byte{2, 0, 0, 0, 0, 0, 0, 0, 2, 0, 0, 0, 97, 98}},
		{[][]byte{{0, 0, 0, 0}}, []byte{1, 0, 0, 0, 4, 0, 0, 0, 0, 0, 0, 0}},
	} {
		if b, e := digest.Frame(c.parts); e != api.OK || !bytes.Equal(b, c.want) {
			t.Errorf("P305: Frame(%q) = %v, %v, want %v", c.parts, b, e, c.want)
		}
		if l, e := digest.Parts(c.want); e != api.OK || !same(l, c.parts) {
			t.Errorf("P306: Parts(%v) = %q, %v, want %q", c.want, l, e, c.parts)
		}
	}
	for _, n := range []int{0, 1, 255, 256, 257, 65535, 65536, 1<<24 - 1, 1 << 24, 1<<24 + 1} {
		parts := [][]byte{noise(12, n), {7}}
		b, e := digest.Frame(parts)
		if e != api.OK || !bytes.Equal(b, modelFrame(parts)) {
			t.Errorf("P305: Frame of a part of %d bytes: %v", n, e)
		}
		if l, e := digest.Parts(b); e != api.OK || !same(l, parts) {
			t.Errorf("P306: Parts of a part of %d bytes: %v", n, e)
		}
	}
}

func TestFrameBack(t *testing.T) { // P305, P306: there and back; unlike lists have unlike frames
	r := rand.New(rand.NewSource(13))
	seen := map[string][][]byte{}
	for range 3000 {
		parts := someParts(r)
		b, e := digest.Frame(parts)
		if e != api.OK || !bytes.Equal(b, modelFrame(parts)) {
			t.Fatalf("P305: Frame(%x) = %x, %v", parts, b, e)
		}
		if l, e := digest.Parts(b); e != api.OK || !same(l, parts) {
			t.Fatalf("P306: Parts(%x) = %x, %v", b, l, e)
		}
		if other, is := seen[string(b)]; is && !same(other, parts) {
			t.Fatalf("P306: %x and %x have one frame", other, parts)
		}
		seen[string(b)] = parts
	}
}

func TestManyParts(t *testing.T) { // P305, P306
	for _, n := range []int{255, 256, 257, 65535, 65536} {
		parts := make([][]byte, n)
		parts[n-1] = []byte{1}
		b, e := digest.Frame(parts)
		if e != api.OK || !bytes.Equal(b, modelFrame(parts)) {
			t.Errorf("P305: Frame of %d parts: %v", n, e)
		}
		if l, e := digest.Parts(b); e != api.OK || !same(l, parts) {
			t.Errorf("P306: Parts of %d parts: %v", n, e)
		}
	}
	over := make([][]byte, 65537)
	if b, e := digest.Frame(over); e != api.ErrLong || len(b) != 0 {
		t.Errorf("P305: Frame of 65537 parts: %d bytes, %v", len(b), e)
	}
	if l, e := digest.Parts(modelFrame(over)); e != api.ErrFrame || len(l) != 0 {
		t.Errorf("P306: a row of 65537 parts is what Frame makes of none: %d parts, %v", len(l), e)
	}
}

func TestLargeFrames(t *testing.T) { // P305, P306: 1 << 26 bytes, and one more
	t.Parallel()
	room := make([]byte, maxFrame)
	room[0], room[maxFrame-8] = 1, 2
	for _, c := range []struct {
		parts [][]byte
		want  api.Errno
	}{
		{[][]byte{room[:maxFrame-8]}, api.OK}, {[][]byte{room[:maxFrame-7]}, api.ErrLong}, {[][]byte{room}, api.ErrLong},
		{[][]byte{room[:1<<25], room[:1<<25-12]}, api.OK}, {[][]byte{room[:1<<25], room[:1<<25-11]}, api.ErrLong},
		{slices.Repeat([][]byte{room[:1020]}, 65536), api.ErrLong},
		{slices.Repeat([][]byte{room[:1<<25]}, 65536), api.ErrLong},
		{slices.Concat(slices.Repeat([][]byte{room[:1020]}, 65535), [][]byte{room[:1016]}), api.OK},
		{slices.Concat(slices.Repeat([][]byte{room[:1020]}, 65535), [][]byte{room[:1017]}), api.ErrLong},
	} {
		b, e := digest.Frame(c.parts)
		if e != c.want || e != api.OK && len(b) != 0 {
			t.Errorf("P305: Frame of %d parts, the last of %d bytes: %v, want %v", len(c.parts), len(c.parts[len(c.parts)-1]), e, c.want)
		}
		if e != api.OK {
			continue
		}
		if len(b) != maxFrame || !bytes.Equal(b, modelFrame(c.parts)) {
			t.Errorf("P305: a frame of %d bytes", len(b))
		}
		if l, e := digest.Parts(b); e != api.OK || !same(l, c.parts) {
			t.Errorf("P306: Parts of 1<<26 bytes: %v", e)
		}
	}
	for _, c := range []struct {
		b    []byte
		want api.Errno
	}{
		{modelFrame([][]byte{room[:maxFrame-7]}), api.ErrLong}, {append(room, 0), api.ErrLong}, {make([]byte, maxFrame), api.ErrFrame}, {append(make([]byte, maxFrame), 0), api.ErrLong},
	} {
		if l, e := digest.Parts(c.b); e != c.want || len(l) != 0 {
			t.Errorf("P4, P306: Parts of %d bytes: %d parts, %v, want %v", len(c.b), len(l), e, c.want)
		}
	}
}

func TestNoFrames(t *testing.T) { // P306
	for _, b := range [][]byte{
		nil, {}, {0}, {0, 0, 0}, {1}, {0, 0, 0, 0, 0}, {0, 0, 0, 0, 7}, {0, 0, 0, 0, 0, 0, 0, 0}, {1, 0, 0, 0}, {1, 0, 0, 0, 0}, {1, 0, 0, 0, 0, 0, 0},
		{1, 0, 0, 0, 1, 0, 0, 0}, {1, 0, 0, 0, 0, 0, 0, 0, 7}, {1, 0, 0, 0, 2, 0, 0, 0, 7}, {2, 0, 0, 0, 0, 0, 0, 0}, {0, 0, 0, 1, 0, 0, 0, 0}, {1, 0, 0, 0, 0, 0, 0, 1, 9},
		{1, 0, 0, 0, 255, 255, 255, 255, 1}, {1, 0, 0, 0, 255, 255, 255, 127, 1}, {1, 0, 0, 0, 0, 0, 0, 128, 1}, {255, 255, 255, 255}, {0, 0, 1, 0}, {1, 0, 1, 0}, {0, 0, 0, 128}, {0, 0, 0, 255},
		{255, 255, 255, 255, 0, 0, 0, 0}, {0, 0, 0, 128, 0, 0, 0, 0},
	} {
		if l, e := digest.Parts(b); e != api.ErrFrame || len(l) != 0 {
			t.Errorf("P4, P306: Parts(%v) = %q, %v", b, l, e)
		}
	}
}

func TestBrokenFrames(t *testing.T) { // P306: a frame cut off anywhere, with more behind it, or with another number in it
	r := rand.New(rand.NewSource(14))
	for range 60 {
		parts := someParts(r)
		b := modelFrame(parts)
		for n := range b {
			if l, e := digest.Parts(b[:n]); e != api.ErrFrame || len(l) != 0 {
				t.Fatalf("P306: the first %d bytes of %x: %x, %v", n, b, l, e)
			}
		}
		for _, more := range [][]byte{{0}, {1}, {0, 0, 0, 0}, b} {
			if l, e := digest.Parts(slices.Concat(b, more)); e != api.ErrFrame || len(l) != 0 {
				t.Fatalf("P306: %x with %x behind it: %x, %v", b, more, l, e)
			}
		}
		for bit := range 32 {
			wrong := bytes.Clone(b)
			wrong[bit/8] ^= 1 << (bit % 8)
			l, e := digest.Parts(wrong)
			if e == api.OK && !bytes.Equal(modelFrame(l), wrong) || e != api.OK && e != api.ErrFrame {
				t.Fatalf("P306: %x: %x, %v", wrong, l, e)
			}
		}
	}
}

func TestAllShortRows(t *testing.T) { // P306: of all short rows just those that Frame makes of some parts are read
	frames := map[string]bool{}
	var add func(part []byte)
	add = func(part []byte) {
		frames[string(modelFrame([][]byte{part}))] = true
		if len(part) == 2 { // a longer one has a length that no row here tells
			return
		}
		for c := range byte(3) {
			add(append(slices.Clone(part), c))
		}
	}
	add(nil)
	frames[string(modelFrame(nil))] = true
	frames[string(modelFrame([][]byte{nil, nil}))] = true
	read := 0
	for n := range 13 {
		row := make([]byte, n)
		for more := true; more; more = next(row) {
			l, e := digest.Parts(row)
			if is := frames[string(row)]; is != (e == api.OK) || !is && (e != api.ErrFrame || len(l) != 0) {
				t.Fatalf("P306: Parts(%v) = %v, %v", row, l, e)
			}
			if e == api.OK {
				read++
				if !bytes.Equal(modelFrame(l), row) {
					t.Fatalf("P306: Parts(%v) = %v", row, l)
				}
			}
		}
	}
	if read != len(frames) {
		t.Errorf("P306: %d rows of %d were read", read, len(frames))
	}
}

// next counts a row of the bytes 0, 1 and 2 up, and tells whether it is not yet zeros again.
func next(row []byte) bool {
	for i := range row {
		if row[i]++; row[i] < 3 {
			return true
		}
		row[i] = 0
	}
	return false
}

func TestDomain(t *testing.T) { // P307
	d, e := digest.Domain("d", words("x"))
	if want := "9f4654b5776e1545edafcbd46b9b09df79c73cb88ce5ba464b9613bb0260bf53"; e != api.OK || digest.Hex(d) != want {
		t.Errorf("P307: Domain = %x, %v, want %s", d, e, want)
	}
	r := rand.New(rand.NewSource(15))
	for _, domain := range []string{"", "d", "sigil", "a domain \x00 of \xff bytes", string(noise(16, 300))} {
		for range 50 {
			parts := someParts(r)
			want := model(modelFrame(slices.Concat(words(domain), parts)))
			if d, e := digest.Domain(domain, parts); e != api.OK || !bytes.Equal(d, want) {
				t.Fatalf("P307: Domain(%q, %x) = %x, %v", domain, parts, d, e)
			}
		}
	}
}

func TestDomainsApart(t *testing.T) { // P307: where the domain ends counts, and where each part ends
	seen := map[string]int{}
	for i, l := range [][]string{{""}, {"ab"}, {"a", "b"}, {"", "ab"}, {"ab", ""}, {"a", "", "b"}, {"", "a", "b"}, {"a", "b", ""}, {"b", "a"}, {"", ""}, {"", "", ""}} {
		d, e := digest.Domain(l[0], words(l[1:]...))
		if j, is := seen[string(d)]; is || e != api.OK {
			t.Errorf("P307: %d and %d: one digest, %v", i, j, e)
		}
		seen[string(d)] = i
	}
}

func TestDomainLong(t *testing.T) { // P307: the domain counts as a part
	t.Parallel()
	room := make([]byte, maxFrame)
	for _, c := range []struct {
		domain string
		parts  [][]byte
		want   api.Errno
	}{
		{"", make([][]byte, 65535), api.OK}, {"", make([][]byte, 65536), api.ErrLong}, {"d", make([][]byte, 65537), api.ErrLong},
		{"", [][]byte{room[:maxFrame-12]}, api.OK}, {"", [][]byte{room[:maxFrame-11]}, api.ErrLong},
		{"ab", [][]byte{room[:maxFrame-14]}, api.OK}, {"ab", [][]byte{room[:maxFrame-13]}, api.ErrLong},
		{string(room[:maxFrame-8]), nil, api.OK}, {string(room[:maxFrame-7]), nil, api.ErrLong},
	} {
		d, e := digest.Domain(c.domain, c.parts)
		if e != c.want || e != api.OK && len(d) != 0 {
			t.Errorf("P4, P307: Domain of %d bytes and %d parts: %x, %v, want %v", len(c.domain), len(c.parts), d, e, c.want)
		}
		if e == api.OK && !bytes.Equal(d, model(modelFrame(slices.Concat(words(c.domain), c.parts)))) {
			t.Errorf("P307: Domain of %d bytes and %d parts: %x", len(c.domain), len(c.parts), d)
		}
	}
}

func TestFrameSharing(t *testing.T) { // P2
	plain := [][]byte{noise(17, 30), nil, noise(18, 5), noise(18, 5)}
	want := modelFrame(plain)
	parts, whole := guardedAll(plain)
	one, _ := digest.Frame(parts)
	two, _ := digest.Frame(parts)
	digest.Domain("d", parts)
	if !whole() {
		t.Error("P2: what Frame or Domain was given, or its spare room, was changed")
	}
	overwrite(one)
	for _, p := range parts {
		overwrite(p)
	}
	if !bytes.Equal(two, want) {
		t.Error("P2: a frame shares memory with the parts or another frame")
	}
	frame, whole := guarded(want)
	l, _ := digest.Parts(frame)
	again, _ := digest.Parts(frame)
	if !whole() {
		t.Error("P2: what Parts was given, or its spare room, was changed")
	}
	overwrite(frame)
	for i, p := range l {
		overwrite(p)
		if !same(l[i+1:], plain[i+1:]) || !same(again, plain) {
			t.Errorf("P2: part %d shares memory with another list", i)
		}
	}
}
