package sbe

import (
	"strings"

	"stencil/api"
	"stencil/text"
)

// talk is a codec that is asked by lines.
type talk struct {
	*Codec
	commands map[string]command
}

// command is what a line's first word calls: how its arguments are read, and what is done with them.
type command struct {
	takes []func(s *said, argument string)
	tell  func(t *talk, s said) []string
}

func newTalk(c *Codec) *talk {
	name, version, hex, rest := (*said).readName, (*said).readVersion, (*said).readHex, (*said).readRest
	type reads []func(s *said, argument string)
	return &talk{c, map[string]command{
		"messages": {nil, (*talk).messages},
		"outline":  {nil, (*talk).outline},
		"news":     {reads{version}, (*talk).news},
		"form":     {reads{name, version}, (*talk).show},
		"nulls":    {reads{name, version}, (*talk).nulls},
		"encode":   {reads{name, version, rest}, (*talk).encode},
		"decode":   {reads{version, hex}, (*talk).decode},
		"dump":     {reads{hex}, (*talk).dump},
		"turn":     {reads{version, hex}, (*talk).turn},
		"get":      {reads{hex, rest}, (*talk).get},
	}}
}

// play tells what all lines of a text tell.
func (t *talk) play(commands string) string {
	var out strings.Builder
	for line := range strings.SplitSeq(commands, "\n") {
		if text.Blank(line) {
			continue
		}
		for _, s := range told(func() []string { return t.answer(line) }) {
			out.WriteString(s)
			out.WriteByte('\n')
		}
	}
	return out.String()
}

// answer tells what one line tells.
func (t *talk) answer(line string) []string {
	word, rest, _ := strings.Cut(line, " ")
	c, known := t.commands[word]
	want(known, api.ErrCommand)
	return c.tell(t, c.read(rest))
}

// read reads a command's arguments: none is read ahead of all being there.
func (c command) read(rest string) said {
	var s said
	arguments := cut(rest, len(c.takes))
	for i, read := range c.takes {
		read(&s, arguments[i])
	}
	return s
}

// cut cuts a line's rest into so many arguments, of which the last one goes up to the line's end.
func cut(rest string, count int) []string {
	if count == 0 {
		want(rest == "", api.ErrCommand)
		return nil
	}
	arguments := strings.SplitN(rest, " ", count)
	want(len(arguments) == count, api.ErrCommand)
	for _, a := range arguments {
		want(a != "", api.ErrCommand)
	}
	return arguments
}
