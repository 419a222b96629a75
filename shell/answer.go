package shell

import (
	"strconv"
	"strings"

	"sigil/api"
)

// answer is what is told of a command: the word of its error, or ok, and what stands behind it.
func answer(e api.Errno, words ...string) string {
	return joined(append([]string{e.Error()}, words...)...)
}

// joined puts words together.
func joined(words ...string) string { return strings.Join(words, " ") }

func number(n int) string { return strconv.Itoa(n) }

func quoted(text string) string { return Quote([]byte(text)) }

// quotedAll quotes texts, each by itself.
func quotedAll(texts []string) []string {
	l := make([]string, len(texts))
	for i, text := range texts {
		l[i] = quoted(text)
	}
	return l
}

// dotted writes the numbers of a path with dots between.
func dotted(path []int) string {
	if len(path) == 0 {
		return "-"
	}
	l := make([]string, len(path))
	for i, n := range path {
		l[i] = number(n)
	}
	return strings.Join(l, ".")
}
