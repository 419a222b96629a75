package sign_test

import (
	"bytes"
	"testing"

	"sigil/api"
	"sigil/bind"
	"sigil/sign"
)

func TestExampleSchemas(t *testing.T) { // the chapter's example 1
	none, _ := bind.Load(nil)
	if !bytes.Equal(sign.Schema(none), domain("sigil.schema")) {
		t.Error("P1601: a schema without types")
	}
	a := load(t, "package p; message M { int32 a = 1; string b = 2; } message N { M m = 1; }")
	b := load(t, "package p;\n\n// N is of another file\nmessage M\t{ string b = 2; ; int32 /* a */ a = 1; }", `package p; import "f0"; message N { .p.M m = 1; }`)
	if !bytes.Equal(sign.Schema(a), sign.Schema(b)) {
		t.Error("P1601: the same in another order, in other files, with other blanks")
	}
}

func TestExamplePreimage(t *testing.T) { // the chapter's example 2
	s := smallSchema()
	b, e := sign.Preimage(s, "p.M", msg())
	if want := frame([]byte("sigil.message"), sign.Schema(s), []byte("p.M"), nil); e != api.OK || !bytes.Equal(b, want) {
		t.Errorf("P1603: %x, %v, want %x", b, e, want)
	}
}

func TestExampleProofs(t *testing.T) { // the chapter's examples 3 and 4
	s := smallSchema()
	m := msg(at(1, num(5)), at(3, list(num(1), num(-1))))
	root, _ := sign.Commit(s, "p.M", m)
	p := opens(t, s, "p.M", m, "c[1]")
	if p.Path != "c[1]" || !same(p.Value, num(-1)) || len(p.Rungs) != 2 {
		t.Fatalf("P1607: %+v", p)
	}
	for _, r := range p.Rungs {
		if r.At != 1 || r.Of != 2 || len(r.Beside) != 1 || len(r.Beside[0]) != 32 {
			t.Errorf("P1607: rung %+v", r)
		}
	}
	if p := opens(t, s, "p.M", m, ""); p.Path != "" || len(p.Rungs) != 0 || !same(p.Value, m) {
		t.Errorf("P1607: %+v", p)
	}
	openRefuses(t, s, "p.M", m, "b", api.ErrNothing)

	other := copied(p)
	other.Value = num(7)
	verifies(t, s, "p.M", root, other, api.ErrForged)
	other = copied(p)
	other.Rungs = other.Rungs[:1]
	verifies(t, s, "p.M", root, other, api.ErrProof)
	other = copied(p)
	other.Rungs[1].At = 0
	verifies(t, s, "p.M", root, other, api.ErrProof)
	other = copied(p)
	other.Rungs[1].Beside[0] = other.Rungs[1].Beside[0][:31]
	verifies(t, s, "p.M", root, other, api.ErrProof)
	other = copied(p)
	other.Path = "c[9999999]"
	verifies(t, s, "p.M", root, other, api.ErrIndex)
}

func TestKnownDigests(t *testing.T) { // P1601 to P1606: digests of the document's schema that were made without the program
	s := smallSchema()
	holds := func(what string, d []byte, e api.Errno, want string) {
		t.Helper()
		if e != api.OK || !bytes.Equal(d, hexed(t, want)) {
			t.Errorf("%s: %x, %v, want %s", what, d, e, want)
		}
	}
	none, _ := bind.Load(nil)
	holds("P1601: no types", sign.Schema(none), api.OK, "2d54931b45911476e0fc5e069fd3ef77a8b7ff165786b24fa83d5b6727e95198")
	holds("P1601", sign.Schema(s), api.OK, "5a60ca87af4eb192a4ea6eec0ccce4168b690a47abd6b36df0c7aee15f3c0ba7")
	d, e := sign.Type(s, "p.M")
	holds("P1602", d, e, "e21a30b47a9f2401c8451a93222181f6e89599aacb89c9783d6969e01da9551b")
	d, e = sign.Message(s, "p.M", msg())
	holds("P1603: no fields", d, e, "a12e20da05244fc0a538a4c6ad9275eaf27ae3e403f5120eb9a3a70305fd2e71")
	d, e = sign.Message(s, "p.M", one(1, num(150)))
	holds("P1603", d, e, "b1060b60fa7333de6739bc3b04669fdd8359295c86bd44aa415dae39fbe1a288")
	d, e = sign.Commit(s, "p.M", msg())
	holds("P1606: no fields", d, e, "1b006cbe530c69af052c1adc0cdcf7c75e9d399355512f696c0696577d96f442")
	d, e = sign.Commit(s, "p.M", msg(at(1, num(5)), at(3, list(num(1), num(-1)))))
	holds("P1606: a list", d, e, "6f68415f2f020282e5bde7bb3512feed536d98ed744660f07bd3bddd0ffad331")
	d, e = sign.Commit(s, "p.M", msg(at(1, num(5)), at(3, list(num(1), num(-1))), at(4, dict(kv("k", one(2, text("x"))))), at(7, one(1, num(7)))))
	holds("P1606: a map, a message", d, e, "8291b3c82d424cf87739571c1991095c1b35f9483fd8cef41d41d94f32c09a24")
}
