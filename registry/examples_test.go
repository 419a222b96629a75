package registry_test

import (
	"encoding/hex"
	"testing"

	"sigil/api"
)

// Records that were made without the program: of the chapter's sources A and B for "s", of a Rule, a Drop, and of two packages for another subject.
const (
	recordA    = "000000004c00000078bfe8aa0500000001000000010100000073010000004d010000002e3000000073796e746178203d202270726f746f33223b0a6d657373616765204d207b0a2020696e7433322061203d20313b0a7d0aee7b1a88"
	recordB    = "010000005c0000006273b00a0500000001000000010100000073010000004d010000002e4000000073796e746178203d202270726f746f33223b0a6d657373616765204d207b0a2020696e7436342061203d20313b0a2020737472696e672062203d20323b0a7d0a4e8c3260"
	recordRule = "0200000013000000c07016950300000001000000020100000073010000000388f9e4a8"
	recordDrop = "03000000140000002db52ac503000000010000000301000000730200000001001bfb7278"
	recordTwo  = "04000000b2000000ef7fb37e07000000010000000102000000ff0003000000702e42010000002e3b00000073796e746178203d202270726f746f33223b0a696d706f7274202270223b0a6d6573736167652041207b0a20202e702e422078203d20313b0a7d0a01000000704f00000073796e746178203d202270726f746f33223b0a7061636b61676520703b0a6d6573736167652042207b0a20207265736572766564203420746f20363b0a2020737472696e672073203d20323b0a7d0a89cb3933"
	printA     = "778e90e45ce34692f32661a148b3063a50fa4bcf619a87d7009e496428179399"
	printTwo   = "6389886e8edd3048004797fdfb8fe3b603f67edfeeb52adf9bc1b159905abae5"
)

// two are the sources of recordTwo, not as they stand there.
var two = []api.Source{
	{Name: "the package", Text: proto + `package p; message B { string s = 2; reserved 5, 6, 4; }`},
	{Name: "none", Text: proto + `import "the package"; message A { p.B x = 1; }`},
}

func unhex(t testing.TB, s string) []byte {
	t.Helper()
	b, err := hex.DecodeString(s)
	if err != nil {
		t.Fatal(err)
	}
	return b
}

// known is the log of those records, the first so many.
func known(t testing.TB, n int) []byte {
	t.Helper()
	b := []byte(head)
	for _, s := range []string{recordA, recordB, recordRule, recordDrop, recordTwo}[:n] {
		b = append(b, unhex(t, s)...)
	}
	return b
}

func TestExampleOpen(t *testing.T) { // the chapter's example 1
	for _, log := range []string{"", "sigregs", head} {
		x := opened(t, []byte(log))
		if string(x.r.Log()) != head || len(x.r.List()) > 0 {
			t.Errorf("P1806: Open(%q): %q, %v", log, x.r.Log(), x.r.List())
		}
	}
	holds(t, nil, 0)
	holds(t, []byte("sigregs"), 0)
	holds(t, []byte(head), 8)
	openRefuses(t, []byte("sigregs\x02"), api.ErrLog)
}

func TestExampleRegister(t *testing.T) { // the chapter's example 2
	x := fresh(t)
	x.registers("s", fileA, "M", 1, api.OK)
	x.registers("s", src("/* a */ message M{int32 a=1 ; }\n"), "M", 1, api.OK)
	if log := x.r.Log(); string(log) != string(known(t, 1)) {
		t.Errorf("P1806: %x", log)
	}
	x.registers("s", fileB, "M", 2, api.OK)
	x.registers("s", fileC, "M", 0, api.ErrRefused)
	x.tries("s", fileC, "M", api.Break{Rule: api.BType, Path: []int{1}, Old: "M", New: "M"}, api.OK)
	x.refuses("s", fileA, "N", api.ErrName)
	x.refuses("", fileA, "M", api.ErrSubject)
	if log := x.r.Log(); string(log) != string(known(t, 2)) {
		t.Errorf("P1806: %x", log)
	}
	x.again()
}

func TestExampleActs(t *testing.T) { // the chapter's examples 3 and 4
	x := opened(t, known(t, 2))
	x.rules("s", api.RFull, api.OK)
	x.registers("s", fileA, "M", 1, api.OK)
	x.drops("s", 1, api.OK)
	x.registers("s", fileA, "M", 0, api.ErrRefused)
	x.drops("s", 1, api.ErrGone)
	x.drops("s", 3, api.ErrVersion)
	x.rules("s", 7, api.ErrRule)
	x.rules("t", 9, api.ErrSubject)
	x.reads("s", 1, 2, []byte{8, 5}, msg(at(1, num(5))), api.OK)
	x.reads("s", 2, 1, []byte{8, 5}, api.Value{}, api.ErrGone)
	x.reads("s", 1, 2, []byte{8, 0}, api.Value{}, api.ErrZero)
	if log := x.r.Log(); string(log) != string(known(t, 4)) {
		t.Errorf("P1806: %x", log)
	}
	x.again()
}

func TestExampleCut(t *testing.T) { // the chapter's example 5
	log := known(t, 2)
	x := holds(t, log[:len(log)-1], 8+92)
	if l := x.r.List(); !sameList(l, []api.Subject{{Name: "s", Rule: api.RBackward, Versions: []int{1}}}) {
		t.Errorf("P1807: %v", l)
	}
}

func TestKnownLog(t *testing.T) { // P1804, P1806: logs and prints that were made without the program
	x := opened(t, known(t, 4))
	x.registers("\xff\x00", two, "p.B", 1, api.OK)
	log := x.r.Log()
	if string(log) != string(known(t, 5)) {
		t.Fatalf("P1806: %x", log)
	}
	x = holds(t, log, len(log))
	v, e := x.r.Get("s", 1)
	if want := (api.Version{Number: 1, Files: []api.Source{{Name: ".", Text: "syntax = \"proto3\";\nmessage M {\n  int32 a = 1;\n}\n"}}, Type: "M", Print: unhex(t, printA), Gone: true}); e != api.OK || !sameVersion(v, want) {
		t.Errorf("P1804: %+v, %v", v, e)
	}
	v, e = x.r.Get("\xff\x00", 1)
	files := []api.Source{
		{Name: ".", Text: "syntax = \"proto3\";\nimport \"p\";\nmessage A {\n  .p.B x = 1;\n}\n"},
		{Name: "p", Text: "syntax = \"proto3\";\npackage p;\nmessage B {\n  reserved 4 to 6;\n  string s = 2;\n}\n"},
	}
	if want := (api.Version{Number: 1, Files: files, Type: "p.B", Print: unhex(t, printTwo)}); e != api.OK || !sameVersion(v, want) {
		t.Errorf("P1804: %+v, %v", v, e)
	}
	if l, e := x.r.Find(unhex(t, printTwo)); e != api.OK || len(l) != 1 || l[0] != (api.Place{Subject: "\xff\x00", Version: 1}) {
		t.Errorf("P1804: %v, %v", l, e)
	}
	if l := x.r.List(); !sameList(l, []api.Subject{{Name: "s", Rule: api.RFull, Versions: []int{2}}, {Name: "\xff\x00", Rule: api.RBackward, Versions: []int{1}}}) {
		t.Errorf("P1804: %v", l)
	}
}
