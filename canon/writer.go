package canon

import (
	"strings"

	"stencil/api"
	"stencil/decl"
	"stencil/schema"
	"stencil/types"
)

// How much deeper than a part, and than a type's node, its declaration stands: the schema holds the one, the DeclTypes in it the other.
const (
	inSchema = 1
	inTypes  = 2
)

// writer says a schema that schema.Valid takes.
type writer struct {
	api.Schema
	coders  map[coding]int         // the places of the types that code enums and sets
	values  map[int]map[uint64]int // of the enums that were asked, by place: the numbers of their Values, by word
	members []int                  // by place in Types: the Offset that has to be said of a member
	fields  []int                  // by place in Parts: that of a field
	said    []api.Decl
}

// say makes the declarations of a schema, and the elements that say these.
func say(s api.Schema) (ds []api.Decl, es []api.Elem, err api.Errno) {
	defer func() {
		if caught := recover(); caught != nil {
			ds, es, err = nil, nil, caught.(api.Errno)
		}
	}()
	if refused, _ := schema.Valid(s); refused != api.OK {
		return nil, nil, refused
	}
	w := newWriter(s)
	w.saySchema()
	w.sayTypes()
	w.sayParts()
	es, refused, _ := decl.Write(w.said)
	demand(refused == api.OK)
	return w.said, es, api.OK
}

// demand leaves the saying for its face, if there is something that no text means.
func demand(sayable bool) {
	if !sayable {
		panic(api.ErrCanon)
	}
}

func newWriter(s api.Schema) *writer {
	return &writer{
		Schema:  s,
		coders:  codersOf(s.Types),
		values:  map[int]map[uint64]int{},
		members: unsaidOffsets(len(s.Types)),
		fields:  unsaidOffsets(len(s.Parts)),
	}
}

// bare is the declaration that says no more than its name.
func bare(kind api.DeclKind, depth int, name string) api.Decl {
	return api.Decl{Depth: depth, Kind: kind, Name: name, ID: unsaid, Length: unsaid, Offset: unsaid, Block: unsaid, Deprecated: unsaid}
}

// put puts declarations behind one another. Names are copied, since they may be those of the schema that was handed in.
func (w *writer) put(ds ...api.Decl) {
	for _, d := range ds {
		d.Name, d.Type = strings.Clone(d.Name), strings.Clone(d.Type)
		w.said = append(w.said, d)
	}
}

// saySchema says the DeclTypes too: every schema has types of its own, since its header is one.
func (w *writer) saySchema() {
	d := bare(api.DeclSchema, 1, w.Package)
	d.ID, d.Version, d.Order, d.Type = w.ID, w.Version, w.Order, w.typeName(w.Header)
	w.put(d, bare(api.DeclTypes, d.Depth+1, ""))
}

func (w *writer) sayTypes() {
	sayings := nodeSayings()
	for i := len(types.Basic()); i < len(w.Types); i++ {
		n := w.Types[i]
		s := sayings[n.Kind]
		d := bare(s.kind, n.Depth+inTypes, n.Name)
		d.Offset = w.members[i]
		s.fill(w, i, &d)
		w.put(d)
		w.put(s.valuesSaid(n, d.Depth+1)...)
	}
}

func (w *writer) sayParts() {
	sayings := partSayings()
	for i, p := range w.Parts {
		s := sayings[p.Kind]
		d := bare(s.kind, p.Depth+inSchema, p.Name)
		d.ID, d.Since, d.Deprecated = p.ID, p.Since, p.Deprecated
		s.fill(w, i, &d)
		w.put(d)
	}
}

func (w *writer) typeName(place int) string { return w.Types[place].Name }
