package types

import (
	"iter"

	"stencil/api"
	"stencil/decl"
)

// memberDepth is the Depth of what stands right inside a composite that is a type declaration: the schema has 1, a DeclTypes 2, what stands in it 3.
const memberDepth = 4

// resolver makes types of declarations. A declaration is named by its place in ds.
type resolver struct {
	ds       []api.Decl
	sayings  [api.DeclChoice + 1]saying
	ends     []int                  // by declaration: the place behind all that it holds
	types    []int                  // the type declarations
	byName   map[string]int         // the type declarations
	variable map[int]int            // by composite right inside a DeclTypes: how many variable data stand right inside it
	own      []api.TypeNode         // by declaration: the node that it says by itself
	measured map[int]measure        // by composite
	made     map[int][]api.TypeNode // by type declaration: its nodes
}

// resolve makes the types that declarations say, up to the first fault.
func resolve(ds []api.Decl) (ts []api.TypeNode, fault api.Fault) {
	defer func() {
		if caught := recover(); caught != nil {
			ts, fault = nil, caught.(api.Fault)
		}
	}()
	if _, err, _ := decl.Write(ds); err != api.OK {
		giveUp(api.ErrDeclMade, 0)
	}
	r := newResolver(ds)
	r.findTypes()
	for _, i := range r.types {
		r.read(i)
	}
	r.refuseCycles()
	r.refuseBig()
	return r.tell(), api.Fault{}
}

// giveUp leaves the resolving for its face.
func giveUp(err api.Errno, at int) {
	panic(api.Fault{Err: err, At: at})
}

func newResolver(ds []api.Decl) *resolver {
	return &resolver{
		ds:       ds,
		sayings:  sayingsByKind(),
		ends:     endsOf(ds),
		byName:   map[string]int{},
		variable: map[int]int{},
		own:      make([]api.TypeNode, len(ds)),
		measured: map[int]measure{},
		made:     map[int][]api.TypeNode{},
	}
}

// endsOf goes from the back, so that what a declaration holds can be passed over kid by kid.
func endsOf(ds []api.Decl) []int {
	ends := make([]int, len(ds))
	for i := len(ds) - 1; i >= 0; i-- {
		end := i + 1
		for end < len(ds) && ds[end].Depth > ds[i].Depth {
			end = ends[end]
		}
		ends[i] = end
	}
	return ends
}

// inside gives the declarations right inside one.
func (r *resolver) inside(i int) iter.Seq[int] {
	return func(yield func(int) bool) {
		for k := i + 1; k < r.ends[i]; k = r.ends[k] {
			if !yield(k) {
				return
			}
		}
	}
}

// refuse gives up at a declaration.
func (r *resolver) refuse(i int, err api.Errno) { giveUp(err, r.ds[i].At) }

// findTypes finds the type declarations. (That all names are symbols decl.Write has seen to.)
func (r *resolver) findTypes() {
	for types := range r.inside(0) {
		if r.ds[types].Kind != api.DeclTypes {
			continue
		}
		for i := range r.inside(types) {
			if _, taken := PrimOf(r.ds[i].Name); taken {
				r.refuse(i, api.ErrTypeName)
			}
			r.nameOnce(r.byName, i)
			r.types = append(r.types, i)
			r.countVariable(i)
		}
	}
}

// nameOnce takes a declaration's name among others.
func (r *resolver) nameOnce(taken map[string]int, i int) {
	if _, twice := taken[r.ds[i].Name]; twice {
		r.refuse(i, api.ErrTypeTwice)
	}
	taken[r.ds[i].Name] = i
}

// countVariable is done ahead of all reading, since a ref may name what stands behind it.
func (r *resolver) countVariable(i int) {
	for k := range r.inside(i) {
		if r.ds[k].Kind == api.DeclType && r.ds[k].Length == 0 {
			r.variable[i]++
		}
	}
}

func (r *resolver) saying(i int) saying { return r.sayings[r.ds[i].Kind] }

func (r *resolver) read(i int) { r.saying(i).read(r, i) }
