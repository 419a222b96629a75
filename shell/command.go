package shell

import (
	"slices"
	"strconv"
	"strings"

	"sigil/api"
	"sigil/bind"
)

// maxDigits is how many digits a number has at most.
const maxDigits = 9

// action does a command, and tells its answer.
type action func(s *session, g given) string

// command is what is needed behind a command's name, word by word, as the chapter's table says it, and what it does.
type command struct {
	needs string
	do    action
}

// given is what a command has been given: its words, and of each kind the things and numbers for which words among them stand, in their order.
type given struct {
	words   []string
	numbers []int
	schemas []*bind.Schema
	trees   []message
	blobs   [][]byte
	proofs  []api.Proof
	edits   [][]api.Edit
}

// take tells what the words behind a command's name give it, or why they may not stand there.
func (c command) take(s store, words []string) (given, api.Errno) {
	needs, ok := c.needed(len(words))
	if !ok {
		return given{}, api.ErrCommand
	}
	g := given{words: words}
	for i, need := range needs {
		if !g.counted(need, words[i]) {
			return given{}, api.ErrCommand
		}
	}
	for i, need := range needs {
		if !g.found(s, need, words[i]) {
			return given{}, api.ErrNone
		}
	}
	return g, api.OK
}

// needed tells what each of so many words must be, and whether so many may stand there. Two dots stand for any number of words such as the one ahead of them, none too.
func (c command) needed(count int) ([]string, bool) {
	needs := strings.Fields(c.needs)
	last := len(needs) - 1
	if last < 0 || needs[last] != ".." {
		return needs, count == len(needs)
	}
	needs, more := needs[:last-1], needs[last-1:last]
	if count < len(needs) {
		return nil, false
	}
	return slices.Concat(needs, slices.Repeat(more, count-len(needs))), true
}

// counted takes the number that a word must be, and says whether it is one. A word that need be none is fine.
func (g *given) counted(need, word string) bool {
	switch need {
	case "N", "W", "R":
		if word == "" || len(word) > maxDigits || strings.Trim(word, "0123456789") != "" {
			return false
		}
		n, _ := strconv.Atoi(word)
		g.numbers = append(g.numbers, n)
	}
	return true
}

// found takes the thing of the store that a word must name, and says whether there is one. A word that need name none is fine.
func (g *given) found(s store, need, word string) bool {
	ok := true
	switch need {
	case "S":
		g.schemas, ok = named(g.schemas, s.schemas.Get, word)
	case "T":
		g.trees, ok = named(g.trees, s.trees.get, word)
	case "B":
		g.blobs, ok = named(g.blobs, s.blobs.get, word)
	case "P":
		g.proofs, ok = named(g.proofs, s.proofs.get, word)
	case "E":
		g.edits, ok = named(g.edits, s.edits.get, word)
	}
	return ok
}

// named puts the thing of a name behind others, and says whether there is one.
func named[T any](l []T, get func(name string) (T, bool), name string) ([]T, bool) {
	thing, ok := get(name)
	return append(l, thing), ok
}
