package registry_test

import (
	"bytes"
	"encoding/binary"
	"hash/crc32"
	"slices"

	"sigil/api"
	"sigil/bind"
	"sigil/compat"
	"sigil/loose"
	"sigil/sign"
	"sigil/strict"
)

// second is a second reading of the chapter: a registry that knows just what was done, and tells all else from that.
type second struct {
	done []deed
	log  []byte
}

// deed is one thing that was done.
type deed struct {
	act     byte
	subject string
	edition     // of a Register
	number  int // of a Rule the rule, of a Drop the version
}

// edition is a version with its schema.
type edition struct {
	api.Version
	schema *bind.Schema
}

func newSecond() *second { return &second{log: []byte(head)} }

// part is a part of a frame.
func part(b []byte) []byte {
	return append(binary.LittleEndian.AppendUint32(nil, uint32(len(b))), b...)
}

// frame is the frame of parts.
func frame(parts ...[]byte) []byte {
	b := binary.LittleEndian.AppendUint32(nil, uint32(len(parts)))
	for _, p := range parts {
		b = append(b, part(p)...)
	}
	return b
}

// texts are parts of texts.
func texts(l ...string) [][]byte {
	var out [][]byte
	for _, s := range l {
		out = append(out, []byte(s))
	}
	return out
}

func crc(b []byte) uint32 { return crc32.Checksum(b, crc32.MakeTable(crc32.Castagnoli)) }

// record is the record of a number with any content.
func record(number int, content []byte) []byte {
	b := binary.LittleEndian.AppendUint32(nil, uint32(number))
	b = binary.LittleEndian.AppendUint32(b, uint32(len(content)))
	b = binary.LittleEndian.AppendUint32(b, crc(b))
	b = append(b, content...)
	return binary.LittleEndian.AppendUint32(b, crc(content))
}

// content is the content of what was done.
func (d deed) content() []byte {
	parts := [][]byte{{d.act}, []byte(d.subject)}
	switch d.act {
	case 1:
		parts = append(parts, []byte(d.Type))
		for _, s := range d.Files {
			parts = append(parts, []byte(s.Name), []byte(s.Text))
		}
	case 2:
		parts = append(parts, []byte{byte(d.number)})
	case 3:
		parts = append(parts, binary.LittleEndian.AppendUint16(nil, uint16(d.number)))
	}
	return frame(parts...)
}

// does notes what is done, if there is room for it.
func (s *second) does(d deed) api.Errno {
	b := record(len(s.done), d.content())
	if len(s.log)+len(b) > api.MaxLog {
		return api.ErrFull
	}
	s.done = append(s.done, d)
	s.log = append(s.log, b...)
	return api.OK
}

// editions are all versions of a subject, as they are now.
func (s *second) editions(subject string) []edition {
	var l []edition
	for _, d := range s.done {
		switch {
		case d.subject != subject:
		case d.act == 1:
			d.Number = len(l) + 1
			l = append(l, d.edition)
		case d.act == 3:
			l[d.number-1].Gone = true
		}
	}
	return l
}

// living are the versions of a subject that were not dropped.
func (s *second) living(subject string) []edition {
	return slices.DeleteFunc(s.editions(subject), func(v edition) bool { return v.Gone })
}

func (s *second) names() []string {
	var l []string
	for _, d := range s.done {
		l = append(l, d.subject)
	}
	slices.Sort(l)
	return slices.Compact(l)
}

func (s *second) rule(subject string) int {
	for _, d := range slices.Backward(s.done) {
		if d.act == 2 && d.subject == subject {
			return d.number
		}
	}
	return api.RBackward
}

// offered is what is handed to Register and Try.
func offered(subject string, files []api.Source, name string) (edition, api.Errno) {
	if len(subject) > 255 {
		return edition{}, api.ErrLong
	}
	if len(subject) == 0 {
		return edition{}, api.ErrSubject
	}
	s, bad := bind.Load(files)
	if bad.Err != api.OK {
		return edition{}, bad.Err
	}
	if _, e := s.Message(name); e != api.OK {
		return edition{}, e
	}
	return edition{api.Version{Files: s.Texts(), Type: name, Print: sign.Schema(s)}, s}, api.OK
}

// there is the number of the living version of a subject that is just this one.
func (s *second) there(subject string, v edition) int {
	for _, old := range s.living(subject) {
		if bytes.Equal(old.Print, v.Print) && old.Type == v.Type {
			return old.Number
		}
	}
	return 0
}

func (s *second) try(subject string, files []api.Source, name string) (api.Break, api.Errno) {
	next, e := offered(subject, files, name)
	if e != api.OK || s.there(subject, next) > 0 {
		return api.Break{}, e
	}
	rule, l := s.rule(subject), s.living(subject)
	if rule == 0 {
		return api.Break{}, api.OK
	}
	if rule < 4 && len(l) > 1 {
		l = l[len(l)-1:]
	}
	kind := (rule - 1) % 3 // 0 backward, 1 forward, 2 both
	for _, old := range l {
		if kind != 1 {
			if b, e := compat.Check(old.schema, old.Type, next.schema, next.Type); e != api.OK || b.Rule != 0 {
				return b, e
			}
		}
		if kind != 0 {
			if b, e := compat.Check(next.schema, next.Type, old.schema, old.Type); e != api.OK || b.Rule != 0 {
				return b, e
			}
		}
	}
	return api.Break{}, api.OK
}

func (s *second) register(subject string, files []api.Source, name string) (int, api.Errno) {
	b, e := s.try(subject, files, name)
	if e != api.OK {
		return 0, e
	}
	if b.Rule != 0 {
		return 0, api.ErrRefused
	}
	next, _ := offered(subject, files, name)
	if n := s.there(subject, next); n > 0 {
		return n, api.OK
	}
	count := len(s.editions(subject))
	if count == 0 && len(s.names()) >= 64 || count >= 256 {
		return 0, api.ErrFull
	}
	if e := s.does(deed{act: 1, subject: subject, edition: next}); e != api.OK {
		return 0, e
	}
	return count + 1, api.OK
}

func (s *second) setRule(subject string, rule int) api.Errno {
	if _, e := s.get(subject, 1); e != api.OK {
		return e
	}
	if rule < 0 || rule > 6 {
		return api.ErrRule
	}
	if rule == s.rule(subject) {
		return api.OK
	}
	return s.does(deed{act: 2, subject: subject, number: rule})
}

func (s *second) drop(subject string, version int) api.Errno {
	v, e := s.get(subject, version)
	if e != api.OK {
		return e
	}
	if v.Gone {
		return api.ErrGone
	}
	return s.does(deed{act: 3, subject: subject, number: version})
}

func (s *second) get(subject string, version int) (api.Version, api.Errno) {
	v, e := s.edition(subject, version)
	return v.Version, e
}

func (s *second) edition(subject string, version int) (edition, api.Errno) {
	l := s.editions(subject)
	switch {
	case len(subject) > 255:
		return edition{}, api.ErrLong
	case len(l) == 0:
		return edition{}, api.ErrSubject
	case version < 1 || version > len(l):
		return edition{}, api.ErrVersion
	}
	return l[version-1], api.OK
}

func (s *second) find(print []byte) []api.Place {
	var l []api.Place
	for _, name := range s.names() {
		for _, v := range s.living(name) {
			if bytes.Equal(v.Print, print) {
				l = append(l, api.Place{Subject: name, Version: v.Number})
			}
		}
	}
	return l
}

func (s *second) list() []api.Subject {
	var l []api.Subject
	for _, name := range s.names() {
		told := api.Subject{Name: name, Rule: s.rule(name)}
		for _, v := range s.living(name) {
			told.Versions = append(told.Versions, v.Number)
		}
		l = append(l, told)
	}
	return l
}

// read reads by package loose, as P1810 says.
func (s *second) read(subject string, wrote, reads int, message []byte) (api.Value, api.Errno) {
	from, e := s.edition(subject, wrote)
	if e != api.OK {
		return api.Value{}, e
	}
	to, e := s.edition(subject, reads)
	if e != api.OK {
		return api.Value{}, e
	}
	if to.Gone {
		return api.Value{}, api.ErrGone
	}
	if len(message) > 1<<20 {
		return api.Value{}, api.ErrLong
	}
	b, e := compat.Check(from.schema, from.Type, to.schema, to.Type)
	if e != api.OK {
		return api.Value{}, e
	}
	if b.Rule != 0 {
		return api.Value{}, api.ErrCompat
	}
	if _, e := strict.Check(from.schema, from.Type, message); e != api.OK {
		return api.Value{}, e
	}
	v, _, e := loose.Decode(to.schema, to.Type, message)
	return v, e
}

// secondOpen is a second reading of Open. It looks at no number and no sum: what is done again must be written as it stands there.
func secondOpen(log []byte) (*second, int, api.Errno) {
	s := newSecond()
	switch {
	case len(log) > 1<<26:
		return nil, 0, api.ErrLong
	case len(log) < 8 && string(log) == head[:len(log)]:
		return s, 0, api.OK
	case len(log) < 8 || string(log[:8]) != head:
		return nil, 0, api.ErrLog
	}
	for {
		rest := log[len(s.log):]
		next := second{slices.Clip(s.done), slices.Clip(s.log)}
		if len(rest) >= 12 {
			if n := int(binary.LittleEndian.Uint32(rest[4:])); n <= len(rest)-12 {
				next.redo(cut(rest[12 : 12+n]))
			}
		}
		if len(next.log) == len(s.log) || !bytes.HasPrefix(log, next.log) {
			return s, len(s.log), api.OK
		}
		s = &next
	}
}

// cut tells the parts of a frame, none if it is no frame.
func cut(b []byte) [][]byte {
	var l [][]byte
	whole := b
	if len(b) < 4 || binary.LittleEndian.Uint32(b) > 65536 {
		return nil
	}
	for at := 4; at+4 <= len(b) && len(l) <= 65536; {
		n := int(binary.LittleEndian.Uint32(b[at:]))
		if n > len(b)-at-4 {
			return nil
		}
		l = append(l, b[at+4:at+4+n])
		at += 4 + n
	}
	if !bytes.Equal(frame(l...), whole) {
		return nil
	}
	return l
}

// redo does what parts say.
func (s *second) redo(parts [][]byte) {
	if len(parts) < 3 || len(parts[0]) != 1 {
		return
	}
	subject, third := string(parts[1]), parts[2]
	switch parts[0][0] {
	case 1:
		var files []api.Source
		for l := parts[3:]; len(l) > 1; l = l[2:] {
			files = append(files, api.Source{Name: string(l[0]), Text: string(l[1])})
		}
		s.register(subject, files, string(third))
	case 2:
		if len(third) > 0 {
			s.setRule(subject, int(third[0]))
		}
	case 3:
		if len(third) > 1 {
			s.drop(subject, int(third[0])+256*int(third[1]))
		}
	}
}
