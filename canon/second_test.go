package canon_test

import (
	"fmt"
	"reflect"
	"slices"
	"strings"
	"testing"

	"stencil/api"
	"stencil/canon"
	"stencil/decl"
	"stencil/number"
	"stencil/prim"
	"stencil/schema"
	"stencil/text"
	"stencil/xmltree"
)

var primNames = strings.Fields("char int8 int16 int32 int64 uint8 uint16 uint32 uint64 float double")

// unsaidDecl is the bare declaration.
func unsaidDecl(kind api.DeclKind, depth int) api.Decl {
	return api.Decl{Depth: depth, Kind: kind, ID: -1, Length: -1, Offset: -1, Block: -1, Deprecated: -1}
}

// secondDecls is Decls again, from the chapter's words: each type and part says itself and what it holds, found anew each time.
func secondDecls(s api.Schema) ([]api.Decl, api.Errno) {
	if e, _ := schema.Valid(s); e != api.OK {
		return nil, e
	}
	top := unsaidDecl(api.DeclSchema, 1)
	top.Name, top.ID, top.Version, top.Order, top.Type = s.Package, s.ID, s.Version, s.Order, s.Types[s.Header].Name
	ds := []api.Decl{top}
	if len(s.Types) > 11 {
		ds = append(ds, unsaidDecl(api.DeclTypes, 2))
	}
	for i := 11; i < len(s.Types); i++ {
		if s.Types[i].Depth > 1 {
			continue
		}
		said, ok := secondNode(s.Types, i, -1)
		if !ok {
			return nil, api.ErrCanon
		}
		ds = append(ds, said...)
	}
	for i := range s.Parts {
		ds = append(ds, secondPart(s, i))
	}
	for _, d := range ds {
		if d.Depth > 16 {
			return nil, api.ErrCanon
		}
	}
	if len(ds) > 20000 {
		return nil, api.ErrCanon
	}
	return ds, api.OK
}

// insideOf is the places one deeper than the one at i, up to the next that isn't deeper.
func insideOf(depths []int, i int) []int {
	var places []int
	for k := i + 1; k < len(depths) && depths[k] > depths[i]; k++ {
		if depths[k] == depths[i]+1 {
			places = append(places, k)
		}
	}
	return places
}

func depthsOf[T any](list []T, depth func(T) int) []int {
	var ds []int
	for _, x := range list {
		ds = append(ds, depth(x))
	}
	return ds
}

// secondNode says the node at i and what it holds.
func secondNode(ts []api.TypeNode, i, offset int) ([]api.Decl, bool) {
	n := ts[i]
	kinds := []api.DeclKind{api.DeclType, api.DeclEnum, api.DeclSet, api.DeclComposite}
	d := unsaidDecl(kinds[n.Kind], n.Depth+2)
	d.Name, d.Offset = n.Name, offset
	switch n.Kind {
	case api.TypeSimple:
		ok := secondSimple(&d, n)
		return []api.Decl{d}, ok
	case api.TypeEnum, api.TypeSet:
		return secondCoded(ts, d, n)
	}
	ds := []api.Decl{d}
	end := 0
	for _, k := range insideOf(depthsOf(ts, func(n api.TypeNode) int { return n.Depth }), i) {
		m := ts[k]
		said := -1
		if m.Size > 0 || m.Kind == api.TypeSimple && m.Length == 0 {
			if m.Offset != end {
				said = m.Offset
			}
			end = m.Offset + m.Size
		}
		inner, ok := secondNode(ts, k, said)
		if !ok {
			return nil, false
		}
		ds = append(ds, inner...)
	}
	return ds, true
}

func secondSimple(d *api.Decl, n api.TypeNode) bool {
	d.Type = primNames[n.Prim]
	if n.Length != 1 {
		d.Length = n.Length
	}
	if n.Presence != api.Required {
		d.HasPresence, d.Presence = true, n.Presence
	}
	if n.Length > 0 {
		for _, v := range []struct {
			word, usual uint64
			to          *string
		}{{n.Null, prim.Null(n.Prim), &d.Null}, {n.Min, prim.Min(n.Prim), &d.Min}, {n.Max, prim.Max(n.Prim), &d.Max}} {
			if v.word != v.usual {
				*v.to, _ = number.Print(n.Prim, v.word)
			}
		}
	}
	if n.Presence != api.Constant {
		return true
	}
	if n.Prim == api.Char {
		var bytes []byte
		for _, w := range n.Const {
			bytes = append(bytes, byte(w))
		}
		for len(bytes) > 0 && bytes[len(bytes)-1] == 0 {
			bytes = bytes[:len(bytes)-1]
		}
		d.Value = string(bytes)
		d.Length = -1
		if n.Length != len(d.Value) {
			d.Length = n.Length
		}
	} else {
		d.Value, _ = number.Join(n.Prim, n.Const)
	}
	e, _ := text.Chars(d.Value)
	return d.Value != "" && text.Trim(d.Value) == d.Value && e == api.OK
}

func secondCoded(ts []api.TypeNode, d api.Decl, n api.TypeNode) ([]api.Decl, bool) {
	for _, m := range ts {
		if d.Type == "" && m.Depth == 1 && m.Kind == api.TypeSimple && m.Prim == n.Prim && m.Length == 1 && m.Presence != api.Constant && m.Min == n.Min && m.Max == n.Max && (n.Kind == api.TypeSet || m.Null == n.Null) {
			d.Type = m.Name
		}
	}
	ds := []api.Decl{d}
	for _, v := range n.Values {
		var inner api.Decl
		if n.Kind == api.TypeEnum {
			inner = unsaidDecl(api.DeclValid, d.Depth+1)
			inner.Value, _ = number.Print(n.Prim, v.Value)
		} else {
			inner = unsaidDecl(api.DeclChoice, d.Depth+1)
			inner.Value = fmt.Sprint(v.Value)
		}
		inner.Name, inner.Since = v.Name, v.Since
		ds = append(ds, inner)
	}
	return ds, d.Type != ""
}

// secondPart says one part.
func secondPart(s api.Schema, i int) api.Decl {
	p := s.Parts[i]
	kinds := []api.DeclKind{api.DeclMessage, api.DeclField, api.DeclGroup, api.DeclData}
	d := unsaidDecl(kinds[p.Kind], p.Depth+1)
	d.Name, d.ID, d.Since, d.Deprecated = p.Name, p.ID, p.Since, p.Deprecated
	if p.Kind != api.PartMessage {
		d.Type = s.Types[p.Type].Name
	}
	depths := depthsOf(s.Parts, func(p api.Part) int { return p.Depth })
	if p.Kind == api.PartMessage || p.Kind == api.PartGroup {
		end := 0
		for _, k := range insideOf(depths, i) {
			if q := s.Parts[k]; q.Size > 0 {
				end = q.Offset + q.Size
			}
		}
		if p.Block != end {
			d.Block = p.Block
		}
	}
	if p.Kind != api.PartField {
		return d
	}
	if p.Size > 0 {
		end := 0
		for k := i - 1; s.Parts[k].Depth >= p.Depth; k-- {
			// The fields of a block come one behind the other.
			if q := s.Parts[k]; q.Depth == p.Depth && q.Size > 0 {
				end = q.Offset + q.Size
				break
			}
		}
		if p.Offset != end {
			d.Offset = p.Offset
		}
	}
	n := s.Types[p.Type]
	switch {
	case n.Kind == api.TypeSimple && n.Presence == api.Constant:
	case p.Presence == api.Constant:
		d.HasPresence, d.Presence = true, api.Constant
		for _, v := range slices.Backward(n.Values) {
			if v.Value == p.Const[0] && v.Since <= p.Since {
				d.Value = n.Name + "." + v.Name
			}
		}
	case n.Kind == api.TypeSimple && p.Presence != n.Presence, n.Kind != api.TypeSimple && p.Presence != api.Required:
		d.HasPresence, d.Presence = true, p.Presence
	}
	return d
}

// secondText is Print again.
func secondText(s api.Schema) (string, api.Errno) {
	ds, e := secondDecls(s)
	if e != api.OK {
		return "", e
	}
	es, e, _ := decl.Write(ds)
	if e != api.OK {
		return "", api.ErrCanon
	}
	out, e, _ := xmltree.Print(es)
	if e != api.OK || len(out) > 1048576 {
		return "", api.ErrCanon
	}
	return out, api.OK
}

// secondLines is Outline again.
func secondLines(s api.Schema) ([]string, api.Errno) {
	if e, _ := schema.Valid(s); e != api.OK {
		return nil, e
	}
	var lines []string
	for _, p := range s.Parts {
		line := ""
		for range p.Depth - 1 {
			line += "  "
		}
		name := s.Types[p.Type].Name
		switch p.Kind {
		case api.PartMessage:
			line += fmt.Sprintf("message %s id %d since %d block %d", p.Name, p.ID, p.Since, p.Block)
		case api.PartField:
			line += fmt.Sprintf("field %s id %d since %d type %s %s at %d size %d", p.Name, p.ID, p.Since, name, []string{"required", "optional", "constant"}[p.Presence], p.Offset, p.Size)
		case api.PartGroup:
			line += fmt.Sprintf("group %s id %d since %d type %s block %d", p.Name, p.ID, p.Since, name, p.Block)
		case api.PartData:
			line += fmt.Sprintf("data %s id %d since %d type %s", p.Name, p.ID, p.Since, name)
		}
		lines = append(lines, line)
	}
	return lines, api.OK
}

// levelled is a copy of a schema whose empty lists are nil.
func levelled(s api.Schema) api.Schema {
	s = copied(s)
	for i := range s.Types {
		if len(s.Types[i].Const) == 0 {
			s.Types[i].Const = nil
		}
		if len(s.Types[i].Values) == 0 {
			s.Types[i].Values = nil
		}
	}
	for i := range s.Parts {
		if len(s.Parts[i].Const) == 0 {
			s.Parts[i].Const = nil
		}
	}
	if len(s.Types) == 0 {
		s.Types = nil
	}
	if len(s.Parts) == 0 {
		s.Parts = nil
	}
	return s
}

// copied shares no list with what it is of.
func copied(s api.Schema) api.Schema {
	s.Types, s.Parts = slices.Clone(s.Types), slices.Clone(s.Parts)
	for i := range s.Types {
		s.Types[i].Const, s.Types[i].Values = slices.Clone(s.Types[i].Const), slices.Clone(s.Types[i].Values)
	}
	for i := range s.Parts {
		s.Parts[i].Const = slices.Clone(s.Parts[i].Const)
	}
	return s
}

// alike holds two schemas against each other, field by field.
func alike(a, b api.Schema) bool { return reflect.DeepEqual(levelled(a), levelled(b)) }

// hold holds all three calls against the second ones, and what they answer against P10.4. It tells Print's answer.
func hold(t *testing.T, s api.Schema) (string, api.Errno) {
	t.Helper()
	ds, e := canon.Decls(s)
	wantDs, wantE := secondDecls(s)
	if e != wantE || !slices.Equal(ds, wantDs) {
		t.Fatalf("P10.1: Decls(%+v)\n%+v, %d\nwant\n%+v, %d", s, ds, e, wantDs, wantE)
	}
	out, printE := canon.Print(s)
	wantOut, wantE := secondText(s)
	if printE != wantE || out != wantOut {
		t.Fatalf("P10.2: Print(%+v)\n%s, %d\nwant\n%s, %d", s, out, printE, wantOut, wantE)
	}
	lines, outlineE := canon.Outline(s)
	wantLines, wantE := secondLines(s)
	if outlineE != wantE || !slices.Equal(lines, wantLines) {
		t.Fatalf("P10.3: Outline(%+v)\n%q, %d\nwant\n%q, %d", s, lines, outlineE, wantLines, wantE)
	}
	if e == api.OK {
		if built, e, at := schema.Build(ds); e != api.OK || !alike(built, s) {
			t.Fatalf("P10.4: Build of Decls(%+v): %d, %d\n%+v", s, e, at, built)
		}
	}
	if printE == api.OK {
		loaded, e, at := schema.Load(out)
		if e != api.OK || !alike(loaded, s) {
			t.Fatalf("P10.4: Load of %s: %d, %d\n%+v\nwant\n%+v", out, e, at, loaded, s)
		}
		if again, e := canon.Print(loaded); e != api.OK || again != out {
			t.Fatalf("P10.4: printed again %s: %d, %s", out, e, again)
		}
	}
	return out, printE
}
