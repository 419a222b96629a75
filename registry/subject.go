package registry

import (
	"bytes"
	"strings"

	"sigil/api"
	"sigil/bind"
	"sigil/order"
	"sigil/sign"
)

const printLen = 32

// version is a schema with a type.
type version struct {
	schema *bind.Schema
	typ    string
	print  []byte
	gone   bool
}

// subject is versions by their numbers, and the rule that they follow. One that is there has a version at least.
type subject struct {
	name     string
	rule     int
	versions *order.Map[int, version]
}

// with is the subject with a version at a number.
func (s subject) with(number int, v version) subject {
	s.versions = s.versions.Put(number, v)
	return s
}

// living goes through the versions that were not dropped, by rising number.
func (s subject) living(yield func(int, version) bool) {
	for number, v := range s.versions.All() {
		if !v.gone && !yield(number, v) {
			return
		}
	}
}

// version tells the version of a number.
func (s subject) version(number int) (version, api.Errno) {
	v, ok := s.versions.Get(number)
	if !ok {
		return version{}, api.ErrVersion
	}
	return v, api.OK
}

// same tells the number of the living version that has the print and the type of another one; 0: none has.
func (s subject) same(as version) int {
	for number, v := range s.living {
		if v.typ == as.typ && bytes.Equal(v.print, as.print) {
			return number
		}
	}
	return 0
}

// subject tells the subject of a name.
func (r *Registry) subject(name string) (subject, api.Errno) {
	if len(name) > api.MaxName {
		return subject{}, api.ErrLong
	}
	s, ok := r.subjects.Get(name)
	if !ok {
		return subject{}, api.ErrSubject
	}
	return s, api.OK
}

// put takes a subject as it is now.
func (r *Registry) put(s subject) { r.subjects = r.subjects.Put(s.name, s) }

// both tells the version of a subject that wrote, and the one that is to read.
func (r *Registry) both(name string, wrote, reads int) (from, to version, e api.Errno) {
	s, e := r.subject(name)
	if e != api.OK {
		return version{}, version{}, e
	}
	if from, e = s.version(wrote); e != api.OK {
		return version{}, version{}, e
	}
	if to, e = s.version(reads); e != api.OK {
		return version{}, version{}, e
	}
	if to.gone {
		return version{}, version{}, api.ErrGone
	}
	return from, to, api.OK
}

// offer is a version that may come to a subject.
type offer struct {
	version
	to    subject // one without versions, if it is not there
	there int     // the number of the living version that is the same; 0: there is none
}

// offered reads what is to be a version of a subject.
func (r *Registry) offered(name string, files []api.Source, typ string) (offer, api.Errno) {
	to, e := r.subject(name)
	if e == api.ErrSubject && name != "" {
		// The name is kept: it is to be the registry's own.
		to, e = subject{name: strings.Clone(name), rule: api.RBackward, versions: order.New[int, version]()}, api.OK
	}
	if e != api.OK {
		return offer{}, e
	}
	s, bad := bind.Load(files)
	if bad.Err != api.OK {
		return offer{}, bad.Err
	}
	m, e := s.Message(typ)
	if e != api.OK {
		return offer{}, e
	}
	v := version{schema: s, typ: m.Name, print: sign.Schema(s)}
	return offer{v, to, to.same(v)}, api.OK
}

// hasRoom says whether one more version may come to a subject, and to the registry if that is not there yet.
func (r *Registry) hasRoom(s subject) bool {
	count := s.versions.Len()
	return count < api.MaxVersions && (count > 0 || r.subjects.Len() < api.MaxSubjects)
}
