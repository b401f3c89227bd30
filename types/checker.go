package types

import (
	"stencil/api"
	"stencil/prim"
	"stencil/text"
)

// checker goes through a list of nodes, and keeps by Depth what was come by so far right inside the composite that is open there (of Depth 1: in the list).
type checker struct {
	ts    []api.TypeNode
	names [api.MaxDepth + 2]map[string]int
	ends  [api.MaxDepth + 2]int // of the members that take room
}

// rule is one thing that may be wrong with a node; those ahead of it have been asked.
type rule struct {
	err    api.Errno
	broken func(c *checker, i int) bool
}

func rulesInOrder() []rule {
	return []rule{
		{api.ErrTypeKind, (*checker).hasBadKind},
		{api.ErrTypeBig, (*checker).isTooDeep},
		{api.ErrTypeName, (*checker).hasBadName},
		{api.ErrTypeTwice, (*checker).hasNameTwice},
		{api.ErrTypeLength, (*checker).hasBadLength},
		{api.ErrTypeValue, (*checker).hasBadValue},
		{api.ErrTypeEnum, (*checker).hasBadCode},
		{api.ErrTypeOffset, (*checker).hasBadPlace},
	}
}

// check is the first fault of a list of types; none has the error OK.
func check(ts []api.TypeNode) api.Fault {
	for i, n := range Basic() {
		if i >= len(ts) || !same(ts[i], n) {
			return api.Fault{Err: api.ErrTypeNone, At: i}
		}
	}
	if len(ts) > api.MaxNodes {
		return api.Fault{Err: api.ErrTypeBig, At: api.MaxNodes}
	}
	c := &checker{ts: ts}
	c.names[1] = map[string]int{}
	rules := rulesInOrder()
	for i := len(primNames); i < len(ts); i++ {
		for _, rule := range rules {
			if rule.broken(c, i) {
				return api.Fault{Err: rule.err, At: i}
			}
		}
		c.pass(i)
	}
	return api.Fault{}
}

// same holds a node against one of Basic's.
func same(n, basic api.TypeNode) bool {
	return n.Depth == basic.Depth && n.Kind == basic.Kind && n.Name == basic.Name && n.Prim == basic.Prim &&
		n.Length == basic.Length && n.Presence == basic.Presence && n.Offset == basic.Offset && n.Size == basic.Size &&
		n.Null == basic.Null && n.Min == basic.Min && n.Max == basic.Max && len(n.Const) == 0 && len(n.Values) == 0
}

// pass goes on behind a node with which nothing is wrong.
func (c *checker) pass(i int) {
	n := c.ts[i]
	c.names[n.Depth][n.Name] = i
	if takesRoom(n) {
		c.ends[n.Depth] = n.Offset + n.Size
	}
	if n.Kind == api.TypeComposite {
		c.names[n.Depth+1], c.ends[n.Depth+1] = map[string]int{}, 0
	}
}

// hasBadKind tells of a node that it can't stand there, or has what its Kind doesn't have.
func (c *checker) hasBadKind(i int) bool {
	n, ahead := c.ts[i], c.ts[i-1]
	deepest := ahead.Depth
	if ahead.Kind == api.TypeComposite {
		deepest++
	}
	if n.Depth < 1 || n.Depth > deepest {
		return true
	}
	switch n.Kind {
	case api.TypeSimple:
		return len(n.Values) != 0
	case api.TypeEnum, api.TypeSet:
		return n.Length != 1 || n.Presence != 0 || len(n.Const) != 0
	case api.TypeComposite:
		return n.Prim != 0 || n.Length != 0 || n.Presence != 0 || n.Null != 0 || n.Min != 0 || n.Max != 0 || len(n.Const) != 0 || len(n.Values) != 0
	}
	return true
}

func (c *checker) isTooDeep(i int) bool {
	return c.ts[i].Kind == api.TypeComposite && c.ts[i].Depth > api.MaxDepth
}

func (c *checker) hasBadName(i int) bool {
	n := c.ts[i]
	_, taken := PrimOf(n.Name)
	return !text.Symbol(n.Name) || taken && n.Depth == 1
}

func (c *checker) hasNameTwice(i int) bool {
	n := c.ts[i]
	_, twice := c.names[n.Depth][n.Name]
	return twice
}

// hasBadLength is asked of simple types.
func (c *checker) hasBadLength(i int) bool {
	n := c.ts[i]
	if n.Kind != api.TypeSimple {
		return false
	}
	if !isPrim(n.Prim) || n.Length < 0 || n.Length > api.MaxLength || n.Length == 0 && !c.mayVary(i) {
		return true
	}
	size := n.Length * prim.Size(n.Prim)
	if n.Presence == api.Constant {
		size = 0
	}
	return n.Size != size || n.Size > api.MaxBlock
}

// mayVary tells whether a simple type of no elements stands where variable data may, and says no more than that does.
func (c *checker) mayVary(i int) bool {
	n := c.ts[i]
	last := i+1 == len(c.ts) || c.ts[i+1].Depth <= 1
	usual := basic(n.Prim)
	return last && n.Depth == 2 && n.Presence == api.Required && n.Null == usual.Null && n.Min == usual.Min && n.Max == usual.Max
}

// hasBadValue is asked of simple types.
func (c *checker) hasBadValue(i int) bool {
	n := c.ts[i]
	if n.Kind != api.TypeSimple {
		return false
	}
	elements := 0
	switch n.Presence {
	case api.Required, api.Optional:
	case api.Constant:
		elements = n.Length
	default:
		return true
	}
	return len(n.Const) != elements || !fit(n.Prim, n.Const...) || !fit(n.Prim, n.Null, n.Min, n.Max)
}

func fit(p api.Prim, words ...uint64) bool {
	for _, word := range words {
		if !prim.Fits(p, word) {
			return false
		}
	}
	return true
}

// hasBadCode is asked of enums and sets.
func (c *checker) hasBadCode(i int) bool {
	n := c.ts[i]
	bits := uint64(8 * prim.Size(n.Prim))
	switch n.Kind {
	case api.TypeEnum:
		return !mayEncodeEnum(n.Prim) || hasBadCoding(n) || areBadValues(n.Values, func(v uint64) bool { return prim.Fits(n.Prim, v) })
	case api.TypeSet:
		return !mayEncodeSet(n.Prim) || n.Null != 0 || hasBadCoding(n) || areBadValues(n.Values, func(v uint64) bool { return v < bits })
	}
	return false
}

// hasBadCoding tells of an enum or set that it isn't one value of its primitive type.
func hasBadCoding(n api.TypeNode) bool {
	return n.Size != prim.Size(n.Prim) || !fit(n.Prim, n.Null, n.Min, n.Max)
}

// areBadValues asks an enum's values, or a set's bits.
func areBadValues(values []api.Named, may func(uint64) bool) bool {
	names, numbers := map[string]int{}, map[uint64]int{}
	for i, v := range values {
		names[v.Name], numbers[v.Value] = i, i
		if !text.Symbol(v.Name) || v.Since < 0 || v.Since > api.MaxVersion || !may(v.Value) {
			return true
		}
	}
	return len(names) < len(values) || len(numbers) < len(values)
}

// hasBadPlace tells of a node that it doesn't lie where it may, or of a composite that it is longer or shorter than its members.
func (c *checker) hasBadPlace(i int) bool {
	n := c.ts[i]
	if n.Kind == api.TypeComposite && n.Size != greatestEnd(held(c.ts, i), n.Depth+1) {
		return true
	}
	if n.Depth == 1 || !takesRoom(n) {
		return n.Offset != 0
	}
	return n.Offset < c.ends[n.Depth] || n.Offset > api.MaxBlock-n.Size
}

// greatestEnd is that of the nodes of a Depth that take room. They haven't been asked yet: of what can't lie in any block the sum might wrap.
func greatestEnd(ns []api.TypeNode, depth int) int {
	end := 0
	for _, n := range ns {
		if n.Depth == depth && takesRoom(n) && fitsBlock(n.Offset) && fitsBlock(n.Size) {
			end = max(end, n.Offset+n.Size)
		}
	}
	return end
}

func fitsBlock(n int) bool { return n >= 0 && n <= api.MaxBlock }
