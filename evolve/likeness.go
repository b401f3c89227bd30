package evolve

import (
	"slices"

	"stencil/api"
)

// Verdicts on two types; where none has been given, it is unasked.
const (
	unasked = iota
	same
	different
)

// likeness tells which types, of some as they were and of those of now, are the same. Many parts may have the same two, so each two are gone through once.
type likeness struct {
	olds, news []api.TypeNode
	verdicts   map[[2]int]int            // by the places of the two
	values     map[int]map[api.Named]int // those of the nodes of now that were asked, by place
}

func newLikeness(olds, news []api.TypeNode) likeness {
	return likeness{olds: olds, news: news, verdicts: map[[2]int]int{}, values: map[int]map[api.Named]int{}}
}

// isSameType asks of a type as it was, and one of now, by their places.
func (l likeness) isSameType(i, k int) bool {
	two := [2]int{i, k}
	if l.verdicts[two] == unasked {
		l.verdicts[two] = l.verdict(i, k)
	}
	return l.verdicts[two] == same
}

func (l likeness) verdict(i, k int) int {
	a, b := wholeType(l.olds, i), wholeType(l.news, k)
	// The first nodes' names are the types' own, which are no matter.
	if !slices.EqualFunc(a, b, areAlike) || !slices.EqualFunc(a[1:], b[1:], haveOneName) {
		return different
	}
	for n := range a {
		if !l.hasAll(k+n, a[n].Values) {
			return different
		}
	}
	return same
}

// wholeType is the node of a type, and what it holds.
func wholeType(ts []api.TypeNode, place int) []api.TypeNode {
	end := place + 1
	for end < len(ts) && ts[end].Depth > ts[place].Depth {
		end++
	}
	return ts[place:end]
}

// areAlike leaves names and Values out. Both types begin at the Depth 1, so two nodes are as deep below the first ones if their Depth is the same.
func areAlike(a, b api.TypeNode) bool {
	return a.Depth == b.Depth && a.Kind == b.Kind && a.Prim == b.Prim && a.Length == b.Length && a.Presence == b.Presence &&
		a.Offset == b.Offset && a.Size == b.Size && a.Null == b.Null && a.Min == b.Min && a.Max == b.Max && slices.Equal(a.Const, b.Const)
}

func haveOneName(a, b api.TypeNode) bool { return a.Name == b.Name }

// hasAll tells whether some values stand, each as it is and in whatever order, among those of a node of now.
func (l likeness) hasAll(place int, some []api.Named) bool {
	known := l.valuesOf(place)
	return !slices.ContainsFunc(some, func(v api.Named) bool { return known[v] == 0 })
}

func (l likeness) valuesOf(place int) map[api.Named]int {
	known, asked := l.values[place]
	if !asked {
		known = map[api.Named]int{}
		for _, v := range l.news[place].Values {
			known[v]++
		}
		l.values[place] = known
	}
	return known
}
