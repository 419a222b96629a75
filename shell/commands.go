package shell

import (
	"sigil/loose"
	"sigil/path"
	"sigil/sign"
	"sigil/strict"
)

// commands makes the table of the commands, by their names.
func commands() map[string]command {
	return map[string]command{
		"source":   {"NAME FILE TEXT", (*session).source},
		"load":     {"NAME", (*session).load},
		"texts":    {"S", (*session).texts},
		"types":    {"S", (*session).types},
		"mark":     {"S", (*session).mark},
		"compat":   {"S TYPE S TYPE", (*session).compat},
		"changes":  {"S S", (*session).changes},
		"json":     {"T1 S TYPE TEXT", (*session).json},
		"show":     {"T", (*session).show},
		"same":     {"T T", (*session).same},
		"merge":    {"T T T1", (*session).merge},
		"get":      {"T PATH", (*session).get},
		"clear":    {"T PATH T1", (*session).clear},
		"keep":     {"T T1 PATH ..", masked(path.Keep)},
		"strip":    {"T T1 PATH ..", masked(path.Strip)},
		"leaves":   {"T", (*session).leaves},
		"project":  {"T S TYPE T1", (*session).project},
		"diff":     {"T T E1", (*session).diff},
		"apply":    {"T E T1", (*session).apply},
		"undo":     {"T E E1", (*session).undo},
		"encode":   {"T B1", (*session).encode},
		"hex":      {"B1 DIGITS", (*session).hex},
		"bytes":    {"B1 TEXT", (*session).bytes},
		"dump":     {"B", (*session).dump},
		"strict":   {"B S TYPE T1", decoded(strict.Decode)},
		"loose":    {"B S TYPE T1", decoded(loose.Decode)},
		"canon":    {"B S TYPE B1", (*session).canon},
		"pack":     {"B1 S TYPE N T ..", (*session).pack},
		"unpack":   {"B T1", (*session).unpack},
		"mend":     {"B B1", (*session).mend},
		"sign":     {"T", digested(sign.Message)},
		"commit":   {"T", digested(sign.Commit)},
		"open":     {"T PATH P1", (*session).open},
		"verify":   {"S TYPE DIGITS P", (*session).verify},
		"register": {"SUBJECT S TYPE", (*session).register},
		"try":      {"SUBJECT S TYPE", (*session).try},
		"rule":     {"SUBJECT N", (*session).rule},
		"drop":     {"SUBJECT N", (*session).drop},
		"list":     {"", (*session).list},
		"find":     {"DIGITS", (*session).find},
		"read":     {"SUBJECT W R B T1", (*session).read},
		"log":      {"B1", (*session).log},
		"reopen":   {"B", (*session).reopen},
	}
}
