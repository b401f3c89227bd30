package sbe

import (
	"strconv"

	"stencil/api"
	"stencil/canon"
	"stencil/codec"
	"stencil/dump"
	"stencil/evolve"
	"stencil/ir"
	"stencil/look"
	"stencil/number"
	"stencil/text"
	"stencil/value"
	"stencil/words"
)

func (t *talk) messages(said) []string {
	var lines []string
	for _, p := range t.schema.Parts {
		if p.Kind == api.PartMessage {
			lines = append(lines, p.Name+" "+strconv.Itoa(p.ID)+" "+strconv.Itoa(p.Since)+" "+strconv.Itoa(p.Block))
		}
	}
	return lines
}

func (t *talk) outline(said) []string { return need(canon.Outline(t.schema)) }

func (t *talk) news(s said) []string { return need(evolve.News(t.schema, s.version)) }

func (t *talk) show(s said) []string { return need(ir.Show(need(t.Form(s.name, s.version)))) }

func (t *talk) nulls(s said) []string {
	f := need(t.Form(s.name, s.version))
	return []string{need(words.Print(f, need(value.Nulls(f))))}
}

func (t *talk) encode(s said) []string {
	f := need(t.Form(s.name, s.version))
	tree := needAt(words.Parse(f, s.rest))
	return []string{text.Hex(need(t.Encode(s.name, s.version, tree)))}
}

func (t *talk) decode(s said) []string {
	name, tree, size, err := t.Decode(s.version, string(s.bytes))
	want(err == api.OK, err)
	return []string{name + " " + strconv.Itoa(size) + " " + t.text(name, s.version, tree)}
}

func (t *talk) dump(s said) []string { return need(dump.Lines(t.formIn(s.bytes), s.bytes, 0)) }

func (t *talk) turn(s said) []string {
	return []string{text.Hex(need(codec.Turn(t.formIn(s.bytes), string(s.bytes), s.version)))}
}

func (t *talk) get(s said) []string {
	f := t.formIn(s.bytes)
	path := needAt(look.Path(s.rest))
	answer := need(look.Get(f, s.bytes, 0, path))
	return []string{shown(opOf(f, path), answer)}
}

// formIn is the form of the message with which bytes begin.
func (t *talk) formIn(bytes []byte) api.Form { return t.form(need(t.begun(bytes))) }

// opOf is what a path of a form leads to.
func opOf(f api.Form, path []api.Step) api.TokenOp {
	at := 0
	for _, step := range path {
		at = ir.Find(f, at, step.Name)
	}
	return f.Tokens[at].Op
}

// shown is what was answered of a thing of that kind, as a text.
func shown(op api.TokenOp, answer api.Told) string {
	switch op {
	case api.BeginGroup:
		return strconv.Itoa(answer.Count)
	case api.BeginData:
		return text.Quote(answer.Text)
	}
	return need(number.Join(api.Uint64, answer.Words))
}
