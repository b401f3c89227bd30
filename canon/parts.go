package canon

import (
	"strconv"
	"strings"

	"stencil/api"
)

var presences = [...]string{api.Required: "required", api.Optional: "optional", api.Constant: "constant"}

// partSaying is how a part of a Kind is said: as a declaration, and as a line.
type partSaying struct {
	kind   api.DeclKind
	fill   func(w *writer, i int, d *api.Decl) // what the Kind says beside what all do
	word   string
	pieces func(w *writer, p api.Part) []string // of its line, likewise
}

func partSayings() [api.PartData + 1]partSaying {
	return [...]partSaying{
		api.PartMessage: {api.DeclMessage, (*writer).fillMessage, "message", (*writer).messagePieces},
		api.PartField:   {api.DeclField, (*writer).fillField, "field", (*writer).fieldPieces},
		api.PartGroup:   {api.DeclGroup, (*writer).fillGroup, "group", (*writer).groupPieces},
		api.PartData:    {api.DeclData, (*writer).fillData, "data", (*writer).dataPieces},
	}
}

// fillMessage also finds where the fields lie, which come behind.
func (w *writer) fillMessage(i int, d *api.Decl) {
	var b block
	p := w.Parts[i]
	for k := i + 1; k < len(w.Parts) && w.Parts[k].Depth > p.Depth; k++ {
		if f := w.Parts[k]; f.Depth == p.Depth+1 && f.Size > 0 {
			b.add(k, f.Size, f.Offset)
		}
	}
	d.Block = b.plain(p.Block, w.fields)
}

func (w *writer) fillField(i int, d *api.Decl) {
	p := w.Parts[i]
	t := w.Types[p.Type]
	d.Type, d.Offset = t.Name, w.fields[i]
	// A constant type's Presence is its fields' too; what isn't simple has the Presence Required.
	if p.Presence == t.Presence {
		return
	}
	d.HasPresence, d.Presence = true, p.Presence
	if p.Presence == api.Constant {
		d.Value = t.Name + "." + w.valueName(p.Type, p.Const[0])
	}
}

// valueName is the name of the enum's value that is a constant field's word. No two values have one word, and it is there as early as the field.
func (w *writer) valueName(place int, word uint64) string {
	numbers, known := w.values[place]
	if !known {
		numbers = map[uint64]int{}
		for k, v := range w.Types[place].Values {
			numbers[v.Value] = k
		}
		w.values[place] = numbers
	}
	return w.Types[place].Values[numbers[word]].Name
}

func (w *writer) fillGroup(i int, d *api.Decl) {
	w.fillMessage(i, d)
	w.fillData(i, d)
}

func (w *writer) fillData(i int, d *api.Decl) { d.Type = w.typeName(w.Parts[i].Type) }

// outline is a line for each part of a schema that schema.Valid takes.
func outline(s api.Schema) []string {
	w := &writer{Schema: s}
	sayings := partSayings()
	var lines []string
	for _, p := range s.Parts {
		saying := sayings[p.Kind]
		pieces := []string{saying.word, p.Name, "id", strconv.Itoa(p.ID), "since", strconv.Itoa(p.Since)}
		pieces = append(pieces, saying.pieces(w, p)...)
		lines = append(lines, strings.Repeat("  ", p.Depth-1)+strings.Join(pieces, " "))
	}
	return lines
}

func (w *writer) messagePieces(p api.Part) []string {
	return []string{"block", strconv.Itoa(p.Block)}
}

func (w *writer) fieldPieces(p api.Part) []string {
	return append(w.dataPieces(p), presences[p.Presence], "at", strconv.Itoa(p.Offset), "size", strconv.Itoa(p.Size))
}

func (w *writer) groupPieces(p api.Part) []string {
	return append(w.dataPieces(p), w.messagePieces(p)...)
}

func (w *writer) dataPieces(p api.Part) []string { return []string{"type", w.typeName(p.Type)} }
