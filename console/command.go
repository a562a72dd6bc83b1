package console

import (
	"strings"

	"proctor/api"
	"proctor/machine"
	"proctor/notation"
)

// command is one row of the table: what stands behind its name in a line, and what it does.
type command struct {
	name    string
	numbers int  // how many numbers stand behind the name
	words   int  // and how many words behind these
	open    bool // what stands behind the name is no pieces, but a text for another layer
	do      func(*desk, given) (string, api.Errno)
}

// given is what a line gives its command. What the command's row doesn't name is zero.
type given struct {
	text    string
	numbers [2]int
	words   [2]string
}

func commands() []command {
	return []command{
		{name: "config", open: true, do: (*desk).configure},
		{name: "txn", open: true, do: (*desk).add},
		{name: "drop", do: (*desk).drop},
		{name: "raw", words: 1, do: (*desk).raw},
		{name: "seal", do: (*desk).seal},
		{name: "run", do: (*desk).run},
		{name: "until", numbers: 1, do: (*desk).until},
		{name: "machine", numbers: 2, do: (*desk).build},
		{name: "begin", numbers: 2, do: step(machine.StepBegin, plainly)},
		{name: "commit", numbers: 2, do: step(machine.StepCommit, asEnded)},
		{name: "abort", numbers: 2, do: step(machine.StepAbort, plainly)},
		{name: "read", numbers: 2, words: 1, do: step(machine.StepRead, asFound)},
		{name: "delete", numbers: 2, words: 1, do: step(machine.StepDelete, plainly)},
		{name: "write", numbers: 2, words: 2, do: step(machine.StepWrite, plainly)},
		{name: "emit", do: (*desk).emit},
		{name: "show", do: (*desk).show},
		{name: "deps", do: (*desk).deps},
		{name: "phenomena", do: (*desk).phenomena},
		{name: "serial", do: (*desk).serial},
	}
}

// find gives the command of a line, if there is one for the line's name and number of pieces.
func find(table []command, line string) (command, bool) {
	name, _, _ := strings.Cut(line, " ")
	behind := strings.Count(line, " ")
	for _, c := range table {
		if c.name == name && (c.open || behind == c.numbers+c.words) {
			return c, true
		}
	}
	return command{}, false
}

// take reads what stands behind the command's name in a line that find gave it for.
func (c command) take(line string) (given, api.Errno) {
	if c.open {
		_, text, _ := strings.Cut(line, " ")
		return given{text: text}, api.OK
	}
	var g given
	for i, piece := range strings.Split(line, " ")[1:] {
		e := api.OK
		if i < c.numbers {
			g.numbers[i], e = notation.Number(piece)
		} else {
			g.words[i-c.numbers], e = notation.Unword(piece)
		}
		if e != api.OK {
			return given{}, e
		}
	}
	return g, api.OK
}
