package sbe

import (
	"stencil/api"
	"stencil/number"
	"stencil/text"
)

// said is what a line's arguments say.
type said struct {
	name    string
	version int
	bytes   []byte
	rest    string // what can't be read but with a form, or behind one
}

func (s *said) readName(argument string) { s.name = argument }

func (s *said) readVersion(argument string) {
	s.version = needAt(number.Int(argument, api.MaxVersion))
}

func (s *said) readHex(argument string) { s.bytes = []byte(needAt(text.Unhex(argument))) }

func (s *said) readRest(argument string) { s.rest = argument }
