package registry_test

import (
	"bytes"
	"encoding/binary"
	"fmt"
	"slices"
	"strings"
	"testing"

	"sigil/api"
	"sigil/registry"
)

// join is bytes one behind the other.
func join(l ...[]byte) []byte { return slices.Concat(l...) }

// ends are the places behind the head and behind each record of a right log.
func ends(log []byte) []int {
	l := []int{len(head)}
	for at := len(head); at < len(log); {
		at += 16 + int(binary.LittleEndian.Uint32(log[at+4:]))
		l = append(l, at)
	}
	return l
}

// whole tells how many records of a log are whole in its first bytes.
func whole(ends []int, n int) int {
	return len(slices.DeleteFunc(slices.Clone(ends[1:]), func(end int) bool { return end > n }))
}

func TestOpenHead(t *testing.T) { // P1806, P1808: every front of the head, and every other byte in it
	for n := range len(head) {
		holds(t, []byte(head[:n]), 0)
		for k := range n {
			for c := range 256 {
				b := []byte(head[:n])
				if b[k] = byte(c); string(b) != head[:n] {
					openRefuses(t, b, api.ErrLog)
				}
			}
		}
		openRefuses(t, []byte(head[:n]+"\x00"), api.ErrLog)
		if n > 0 {
			openRefuses(t, []byte(head[:n]+head), api.ErrLog)
		}
	}
	holds(t, []byte(head), 8)
	log := known(t, 5)
	for k := range len(head) {
		for c := range 256 {
			b := bytes.Clone(log)
			if b[k] = byte(c); !bytes.Equal(b, log) {
				openRefuses(t, b, api.ErrLog)
				openRefuses(t, b[:8], api.ErrLog)
			}
		}
	}
	openRefuses(t, log[1:], api.ErrLog)
	openRefuses(t, log[8:], api.ErrLog)
	openRefuses(t, []byte("SIGREGS\x01"), api.ErrLog)
	openRefuses(t, []byte("sigstrm\x01"), api.ErrLog)
}

func TestOpenCut(t *testing.T) { // P1806, P1807: a log cut off at every byte
	log := known(t, 5)
	l := ends(log)
	for n := range len(log) + 1 {
		x := holds(t, log[:n], map[bool]int{true: l[whole(l, n)], false: 0}[n >= 8])
		if n == len(log) {
			x.again()
		}
	}
	// It can be gone on with wherever it was cut.
	for n := range len(log) + 1 {
		x := opened(t, log[:n])
		before := whole(l, n)
		x.register("new", fileB, "M")
		x.register("s", fileA, "M")
		if before > 0 {
			x.rules("s", api.RNone, api.OK)
			x.drops("s", 1, map[bool]api.Errno{true: api.ErrGone, false: api.OK}[before > 3])
		}
		x.again()
	}
}

func TestOpenBehind(t *testing.T) { // P1806: what stands behind the right records is let go, whatever it is
	log := known(t, 5)
	for _, b := range [][]byte{{0}, []byte(head), log, log[9:], log[101:], make([]byte, 100), bytes.Repeat([]byte{0xff}, 100), record(5, nil), record(5, frame()), record(6, log[20:96])} {
		for n := range 6 {
			from := known(t, n)
			holds(t, join(from, b), len(from))
		}
	}
	// A right record that stands there twice, or at another place.
	l := ends(log)
	for i := range 5 {
		for k := range 5 {
			if i != k {
				holds(t, join(log[:l[i]], log[l[k]:l[k+1]], log[l[i]:]), l[i])
			}
		}
		holds(t, join(log[:l[i+1]], log[l[i]:]), l[i+1])
		if i < 4 { // one that is left out
			holds(t, join(log[:l[i]], log[l[i+1]:]), l[i])
		}
	}
}

// laid is a record whose numbers and sums may be wrong.
type laid struct {
	number, length, sum, last uint32
	content                   []byte
}

// lay is the right record of a number.
func lay(number int, content []byte) laid {
	l := laid{number: uint32(number), length: uint32(len(content)), content: content}
	return l.summed()
}

// summed is it with sums that are right.
func (l laid) summed() laid {
	b := binary.LittleEndian.AppendUint32(nil, l.number)
	l.sum = crc(binary.LittleEndian.AppendUint32(b, l.length))
	l.last = crc(l.content[:min(int(l.length), len(l.content))])
	return l
}

func (l laid) bytes() []byte {
	var b []byte
	for _, n := range []uint32{l.number, l.length, l.sum} {
		b = binary.LittleEndian.AppendUint32(b, n)
	}
	return binary.LittleEndian.AppendUint32(append(b, l.content...), l.last)
}

func TestOpenLaidOut(t *testing.T) { // P1806: records whose number, length or sums are wrong
	log := known(t, 5)
	places := ends(log)
	for i := range 5 {
		from, it, behind := log[:places[i]], log[places[i]:places[i+1]], log[places[i+1]:]
		content := it[12 : len(it)-4]
		right := lay(i, content)
		holds(t, join(from, right.bytes(), behind), len(log))
		wrong := func(change func(l *laid)) {
			t.Helper()
			for _, sums := range []bool{false, true} {
				bad := right
				change(&bad)
				if sums {
					bad = bad.summed()
				}
				if b := bad.bytes(); !bytes.Equal(b, right.bytes()) {
					holds(t, join(from, b, behind), len(from))
					holds(t, join(from, b), len(from))
				}
			}
		}
		for _, n := range []uint32{1, 2, 5, 256, 1 << 16, 1 << 24, 1 << 31, 1<<32 - 1} {
			wrong(func(l *laid) { l.number += n })
			wrong(func(l *laid) { l.number -= n })
			wrong(func(l *laid) { l.length += n })
			wrong(func(l *laid) { l.length -= n })
			wrong(func(l *laid) { l.number, l.length = l.number+n, l.length-n })
			wrong(func(l *laid) { l.length = n })
		}
		wrong(func(l *laid) { l.length = 0 })
		wrong(func(l *laid) { l.number, l.length = l.length, l.number })
		for bit := range 32 {
			wrong(func(l *laid) { l.sum ^= 1 << bit })
			wrong(func(l *laid) { l.last ^= 1 << bit })
		}
		wrong(func(l *laid) { l.sum, l.last = l.last, l.sum })
		wrong(func(l *laid) { l.sum, l.last = 0, 0 })
		wrong(func(l *laid) { l.sum, l.last = ^l.sum, ^l.last })
		wrong(func(l *laid) { l.last = crc(it[:len(it)-4]) })
		wrong(func(l *laid) { l.sum = crc(it[:4]) })
		wrong(func(l *laid) { l.sum = crc(it[4:8]) })
		for k := range content {
			other := right
			other.content = bytes.Clone(content)
			other.content[k] ^= 1 << (k % 8)
			holds(t, join(from, other.bytes(), behind), len(from))
			// With sums that are right it may be the record of another act.
			opened(t, join(from, other.summed().bytes(), behind)).alike()
		}
	}
}

func TestOpenFrames(t *testing.T) { // P1806: contents that are no frame of an act
	log := known(t, 2)
	wrong := func(content []byte) {
		t.Helper()
		holds(t, join(log, record(2, content), unhex(t, recordDrop)), len(log))
	}
	right := frame(texts("\x02", "s", "\x03")...)
	holds(t, join(log, record(2, right)), len(log)+35)
	wrong(nil)
	for n := range right {
		wrong(right[:n])
	}
	for c := range 256 {
		wrong(append(bytes.Clone(right), byte(c)))
		wrong(append([]byte{byte(c)}, right...))
	}
	wrong(join(right, right))
	for _, n := range []byte{0, 1, 2, 4, 5, 255} { // how many parts there are
		b := bytes.Clone(right)
		b[0] = n
		wrong(b)
		wrong(append(b, 0, 0, 0, 0))
	}
	wrong(frame())
	for c := range 256 {
		act := string([]byte{byte(c)})
		wrong(frame(texts(act)...))
		wrong(frame(texts(act, "s")...))
		if c == 0 || c > 3 {
			wrong(frame(texts(act, "s", "\x03")...))
			wrong(frame(texts(act, "s", "\x01\x00")...))
			wrong(frame(texts(act, "n", "M", ".", textOf(t, fileA))...))
		}
	}
	for _, act := range []string{"", "\x02\x00", "\x00\x02", "\x02\x02", "2"} {
		wrong(frame(texts(act, "s", "\x03")...))
	}
	wrong(frame(texts("", "\x02", "s", "\x03")...))
	wrong(frame(texts("s", "\x02", "\x03")...))
}

func TestOpenRules(t *testing.T) { // P1806: records of a Rule that are not what the call would write
	log := known(t, 2)
	rule := func(parts ...string) []byte {
		return join(log, record(2, frame(texts(append([]string{"\x02"}, parts...)...)...)))
	}
	for c := range 256 {
		b := rule("s", string([]byte{byte(c)}))
		if c <= 6 && c != api.RBackward { // what it is already would do nothing
			x := holds(t, b, len(b))
			if l := x.r.List(); l[0].Rule != c {
				t.Errorf("P1806: %v", l)
			}
		} else {
			holds(t, b, len(log))
		}
		holds(t, rule("t", string([]byte{byte(c)})), len(log))
	}
	for _, parts := range [][]string{{"s", ""}, {"s", "\x03\x00"}, {"s", "\x03\x03"}, {"s", "3"}, {"s", "\x03", ""}, {"s", "\x03", "\x03"}, {"s", "", "\x03"}, {"", "\x03"}, {"s\x00", "\x03"}, {"S", "\x03"}, {long(255), "\x03"}, {long(256), "\x03"}, {"\x03", "s"}} {
		holds(t, rule(parts...), len(log))
	}
}

func TestOpenDrops(t *testing.T) { // P1806: records of a Drop that are not what the call would write
	log := known(t, 4) // version 1 was dropped
	drop := func(parts ...string) []byte {
		return join(log, record(4, frame(texts(append([]string{"\x03"}, parts...)...)...)))
	}
	b := drop("s", "\x02\x00")
	x := holds(t, b, len(b))
	if l := x.r.List(); len(l[0].Versions) > 0 {
		t.Errorf("P1806: %v", l)
	}
	for n := range 1 << 16 {
		if n == 2 || n > 600 && n%251 > 0 {
			continue
		}
		holds(t, drop("s", string(binary.LittleEndian.AppendUint16(nil, uint16(n)))), len(log))
	}
	for _, parts := range [][]string{{"s", ""}, {"s", "\x02"}, {"s", "\x00\x02"}, {"s", "\x02\x00\x00"}, {"s", "\x02\x00\x00\x00"}, {"s", "\x02\x00", ""}, {"s", "\x02\x00", "\x02\x00"}, {"s", "\x02", "\x00"}, {"t", "\x02\x00"}, {"", "\x02\x00"}, {long(256), "\x02\x00"}} {
		holds(t, drop(parts...), len(log))
	}
}

// textOf is the canonical text of a schema of one package.
func textOf(t testing.TB, files []api.Source) string {
	t.Helper()
	return load(t, files).Texts()[0].Text
}

func TestOpenRegisters(t *testing.T) { // P1806: records of a Register that are not what the call would write
	log := known(t, 4) // s: 1 (A, dropped), 2 (B), RFull
	register := func(parts ...string) []byte {
		return join(log, record(4, frame(texts(append([]string{"\x01"}, parts...)...)...)))
	}
	right := func(parts ...string) {
		t.Helper()
		b := register(parts...)
		holds(t, b, len(b))
	}
	wrong := func(parts ...string) {
		t.Helper()
		holds(t, register(parts...), len(log))
	}
	a, b, c := textOf(t, fileA), textOf(t, fileB), textOf(t, fileC)
	for _, subject := range []string{"t", "\x00", "\xff", long(255)} {
		right(subject, "M", ".", a)
	}
	wrong("", "M", ".", a)
	wrong(long(256), "M", ".", a)
	wrong("s", "M", ".", b) // it is living already
	wrong("s", "M", ".", a) // the rule refuses it
	wrong("s", "M", ".", c)
	right("s", "M", ".", strings.Replace(b, "{", "{\n  reserved 3;", 1))
	wrong("t", "N", ".", a) // types that are not there
	wrong("t", "", ".", a)
	wrong("t", ".M", ".", a)
	wrong("t", long(255), ".", a)
	wrong("t", long(256), ".", a)
	for _, text := range []string{ // texts that are not the one
		"", "x", a + "\n", "\n" + a, a[:len(a)-1], a[:len(a)-2], strings.ReplaceAll(a, "\n", " "), strings.ReplaceAll(a, "  ", " "), a + "// end", strings.Replace(a, "int32", "int33", 1), strings.Replace(a, `"`, "'", 2),
		proto + "message M { int32 a = 1; }", strings.Replace(a, "int32 a = 1;", "int32 b = 2;\n  int32 a = 1;", 1), strings.Replace(a, "}", "  reserved 7;\n}", 1), strings.Replace(a, "{", "{\n  reserved 7, 8;", 1), strings.Replace(a, "= 1", "= 01", 1), strings.Replace(a, "= 1", "= 19000", 1), a + strings.Repeat(" ", api.MaxText), strings.Replace(a, "a = 1", "a = 1; M m = 2", 1), a + "\xff",
	} {
		wrong("t", "M", ".", text)
	}
	for _, name := range []string{"", "a", "..", "M", ". ", long(255), long(256)} { // sources of other names
		wrong("t", "M", name, a)
	}
	wrong("t", "M")
	wrong("t", "M", ".")
	wrong("t", "M", a)
	wrong("t", "M", ".", a, "")
	wrong("t", "M", ".", a, ".", a)
	wrong("t", "M", ".", a, "b", "syntax = \"proto3\";\n") // a source that declares nothing
	wrong("t", "M", ".", a, "", "")
	d := load(t, two).Texts()
	right("t", "p.B", ".", d[0].Text, "p", d[1].Text)
	right("t", "A", ".", d[0].Text, "p", d[1].Text)
	wrong("t", "A", "p", d[1].Text, ".", d[0].Text) // in another order
	wrong("t", "A", ".", d[1].Text, "p", d[0].Text)
	wrong("t", "A", ".", d[0].Text)
	right("t", "p.B", "p", d[1].Text)
	wrong("t", "p.B", ".", d[1].Text)
	wrong("t", "B", ".", d[0].Text, "p", d[1].Text)
	var many []string
	for i := range api.MaxFiles + 1 {
		many = append(many, fmt.Sprintf("p%02d", i), fmt.Sprintf("syntax = \"proto3\";\npackage p%02d;\nmessage M {\n}\n", i))
	}
	right(append([]string{"t", "p00.M"}, many[:2*api.MaxFiles]...)...)
	wrong(append([]string{"t", "p00.M"}, many...)...)
}

func TestOpenRefusedActs(t *testing.T) { // P1806: records that are right but whose act is refused there, by the rule or by what is full
	single, repeated := src(ring("A", 64, "")), src(ring("B", 65, "repeated"))
	x := fresh(t)
	x.registers("s", single, "A0", 1, api.OK)
	log := x.r.Log()
	x.rules("s", api.RNone, api.OK)
	x.registers("s", repeated, "B0", 2, api.OK)
	x.again()
	act := deed{act: 1, subject: "s", edition: edition{Version: api.Version{Type: "B0", Files: load(t, repeated).Texts()}}}
	holds(t, join(log, record(1, act.content())), len(log)) // ErrBreaks
	act.subject = "t"
	b := join(log, record(1, act.content()))
	holds(t, b, len(b))
	fill := fresh(t)
	for i := range api.MaxSubjects {
		fill.registers(fmt.Sprint("s", i), fileA, "M", 1, api.OK)
	}
	log = fill.r.Log()
	act = deed{act: 1, subject: "one more", edition: edition{Version: api.Version{Type: "M", Files: load(t, fileA).Texts()}}}
	holds(t, join(log, record(64, act.content())), len(log))
	act.subject = "s7"
	holds(t, join(log, record(64, act.content())), len(log)) // it is there
	act.Files = load(t, fileB).Texts()
	b = join(log, record(64, act.content()))
	holds(t, b, len(b))
}

func TestOpenVersions(t *testing.T) { // P1806: a record of one version too many
	r, _, _ := registry.Open(nil)
	for i := range api.MaxVersions {
		r.Register("s", src(fmt.Sprintf("message M { int32 a%d = 1; }", i)), "M")
	}
	log := r.Log()
	l := ends(log)
	if len(l) != api.MaxVersions+1 {
		t.Fatal(len(l))
	}
	act := deed{act: 1, subject: "s", edition: edition{Version: api.Version{Type: "M", Files: load(t, fileB).Texts()}}}
	if _, n, e := registry.Open(join(log, record(256, act.content()))); e != api.OK || n != len(log) {
		t.Errorf("P1806: %d, %v", n, e)
	}
	for _, k := range []int{255, 254, 10} { // behind fewer it is right
		b := join(log[:l[k]], record(k, act.content()))
		if _, n, e := registry.Open(b); e != api.OK || n != len(b) {
			t.Errorf("P1806: %d of %d, %v", n, len(b), e)
		}
	}
}

func TestOpenLong(t *testing.T) { // P1806: logs of MaxLog bytes and of more
	b := make([]byte, api.MaxLog+1)
	openRefuses(t, b, api.ErrLong)
	openRefuses(t, b[:api.MaxLog], api.ErrLog)
	copy(b, head)
	openRefuses(t, b, api.ErrLong)
	holds(t, b[:api.MaxLog], 8)
	copy(b, known(t, 2))
	openRefuses(t, b, api.ErrLong)
	holds(t, b[:api.MaxLog], len(known(t, 2)))
	log := known(t, 2)
	room := api.MaxLog - len(log) - 16
	// Records that reach to the end, all of whose numbers and sums are right.
	const ahead = 4 + 4 + 1 + 4 + 1 + 4 // what stands in the frame of act and subject ahead of the third part
	for _, content := range [][]byte{
		make([]byte, room),
		frame([]byte{2}, []byte("s"), make([]byte, room-ahead)),
		frame([]byte{1}, []byte("t"), []byte("M"), []byte("."), make([]byte, room-ahead-10)),
		frame([]byte{3}, make([]byte, room-ahead-1), []byte{2, 0}),
		join(frame(make([][]byte, api.MaxParts)...), make([]byte, room-4-4*api.MaxParts)),
	} {
		if len(content) != room {
			t.Fatal(len(content), room)
		}
		holds(t, join(log, record(2, content)), len(log))
	}
}
