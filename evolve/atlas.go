package evolve

import "stencil/api"

// atlas is a schema whose parts are found by their paths.
type atlas struct {
	api.Schema
	paths  []string       // by place
	places map[string]int // by path; no two parts have the same one
}

func newAtlas(s api.Schema) *atlas {
	a := &atlas{Schema: s, places: map[string]int{}}
	for w := newWalk(s.Parts); w.step(); {
		path := w.path()
		a.places[path] = len(a.paths)
		a.paths = append(a.paths, path)
	}
	return a
}

func (a *atlas) has(path string) bool {
	_, known := a.places[path]
	return known
}

// ranks tells of each part how many members of its row stand ahead of it and are in the other schema too; 0 of what stands in no row.
func (a *atlas) ranks(other *atlas) []int {
	out := make([]int, len(a.Parts))
	met := []int{0} // by Depth less 1: how many in the row that is open there
	for i, p := range a.Parts {
		met = append(met[:p.Depth], 0) // what the part holds is a row of its own
		if isRowMember(p) {
			row := &met[p.Depth-1]
			out[i] = *row
			if other.has(a.paths[i]) {
				*row++
			}
		}
	}
	return out
}

func isRowMember(p api.Part) bool { return p.Kind == api.PartGroup || p.Kind == api.PartData }
