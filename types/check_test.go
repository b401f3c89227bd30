package types_test

import (
	"fmt"
	"math"
	"math/rand"
	"slices"
	"strconv"
	"strings"
	"testing"

	"stencil/api"
	"stencil/types"
)

// The places of sample's nodes.
const (
	atS = 11 + iota
	atK
	atE
	atF
	atC
	atCm
	atCk
	atCq
	atCqx
	atCqe
	atCqs
	atCz
	atV
	atVlength
	atVdata
	atD
	atL
)

// sample is types with a node of every sort.
func sample() []api.TypeNode {
	s := simple(1, "S", api.Uint16, 3, 0)
	s.Presence, s.Null, s.Min, s.Max = api.Optional, 7, 1, 6
	return append(secondBasic(),
		s,
		constant(1, "K", api.Char, 'a', 'b'),
		coded(api.TypeEnum, 1, "E", api.Uint8, 0, api.Named{Name: "A", Value: 1}, api.Named{Name: "B", Value: 2, Since: 3}),
		coded(api.TypeSet, 1, "F", api.Uint16, 0, api.Named{Name: "a", Value: 0}, api.Named{Name: "b", Value: 15, Since: 65534}),
		composite(1, "C", 0, 22),
		simple(2, "m", api.Int32, 1, 0),
		constant(2, "k", api.Int8, word(-2)),
		composite(2, "q", 8, 6),
		simple(3, "x", api.Uint16, 1, 0),
		coded(api.TypeEnum, 3, "e", api.Char, 2, api.Named{Name: "A", Value: 'A'}),
		coded(api.TypeSet, 3, "s", api.Uint8, 5, api.Named{Name: "A", Value: 7}),
		simple(2, "z", api.Uint64, 1, 14),
		composite(1, "V", 0, 2),
		simple(2, "length", api.Uint16, 1, 0),
		simple(2, "varData", api.Char, 0, 2),
		composite(1, "D", 0, 0),
		simple(1, "L", api.Double, 1, 0),
	)
}

// holdCheck holds Check, and the second one too, to an answer.
func holdCheck(t *testing.T, what string, ts []api.TypeNode, err api.Errno, n int) {
	t.Helper()
	if e, got := types.Check(ts); e != err || got != n {
		t.Errorf("%s: Check: %d, %d; want %d, %d", what, e, got, err, n)
	}
	if e, got := secondCheck(ts); e != err || got != n {
		t.Errorf("%s: the test's own Check: %d, %d; want %d, %d", what, e, got, err, n)
	}
}

// change is one done to sample's nodes.
type change = func(ts []api.TypeNode) []api.TypeNode

// at changes the node at a place.
func at(place int, do func(n *api.TypeNode)) change {
	return func(ts []api.TypeNode) []api.TypeNode {
		do(&ts[place])
		return ts
	}
}

func both(a, b change) change {
	return func(ts []api.TypeNode) []api.TypeNode { return b(a(ts)) }
}

// put inserts nodes at a place.
func put(place int, ns ...api.TypeNode) change {
	return func(ts []api.TypeNode) []api.TypeNode { return slices.Insert(ts, place, ns...) }
}

func offset(place, n int) change { return at(place, func(x *api.TypeNode) { x.Offset = n }) }
func size(place, n int) change   { return at(place, func(x *api.TypeNode) { x.Size = n }) }

// P8.4: what is types.
func TestCheckTakes(t *testing.T) {
	holdCheck(t, "the sample", sample(), api.OK, 0)
	holdCheck(t, "Basic's nodes", types.Basic(), api.OK, 0)
	empty := types.Basic()
	for i := range empty {
		empty[i].Const, empty[i].Values = []uint64{}, []api.Named{}
	}
	holdCheck(t, "empty lists", empty, api.OK, 0)
	for what, do := range map[string]change{
		"a name of 64":                        at(atS, func(n *api.TypeNode) { n.Name = strings.Repeat("a", 64) }),
		"a primitive type's name at a member": at(atCm, func(n *api.TypeNode) { n.Name = "uint8" }),
		"the type's own name at a member":     at(atCm, func(n *api.TypeNode) { n.Name = "C" }),
		"one name in two composites":          at(atCqx, func(n *api.TypeNode) { n.Name = "m" }),
		"a greatest length":                   at(atS, func(n *api.TypeNode) { n.Length, n.Size = 32767, 65534 }),
		"a greatest length of a byte":         at(atS, func(n *api.TypeNode) { *n = simple(1, "S", api.Int8, 65535, 0) }),
		"a greatest constant":                 at(atK, func(n *api.TypeNode) { *n = constant(1, "K", api.Double, make([]uint64, 65535)...) }),
		"min above max":                       at(atS, func(n *api.TypeNode) { n.Null, n.Min, n.Max = 65535, 65535, 0 }),
		"a constant's null":                   at(atK, func(n *api.TypeNode) { n.Null, n.Min, n.Max = 255, 254, 253 }),
		"an enum's null":                      at(atE, func(n *api.TypeNode) { n.Null, n.Min, n.Max = 1, 2, 0 }),
		"a set's min":                         at(atF, func(n *api.TypeNode) { n.Min, n.Max = 9, 65535 }),
		"an enum without values":              at(atE, func(n *api.TypeNode) { n.Values = nil }),
		"a value that is null":                at(atE, func(n *api.TypeNode) { n.Values[0].Value = 255 }),
		"offsets behind the end":              both(offset(atCz, 15), size(atC, 23)),
		"a first offset":                      both(offset(atVlength, 3), both(offset(atVdata, 5), size(atV, 5))),
		"variable data further behind":        both(offset(atVdata, 65535), size(atV, 65535)),
		"a composite of 65535":                both(offset(atCz, 65527), size(atC, 65535)),
		"variable data alone":                 put(28, composite(1, "W", 0, 9), simple(2, "v", api.Double, 0, 9)),
		"a constant in a composite":           put(28, composite(1, "W", 0, 0), constant(2, "v", api.Double, 1, 2, 3)),
		"an empty composite last":             put(28, composite(1, "W", 0, 0)),
		"an empty composite inside":           put(atCqs+1, composite(3, "d", 0, 0)),
		"sixteen composites":                  put(28, deepNodes(16)...),
		"sixteen, and a member in the last":   put(28, append(deepNodes(16), constant(17, "c", api.Uint8, 1))...),
	} {
		holdCheck(t, what, do(sample()), api.OK, 0)
	}
}

// deepNodes is composites in one another without any bytes.
func deepNodes(n int) []api.TypeNode {
	var ns []api.TypeNode
	for i := range n {
		ns = append(ns, composite(i+1, "deep", 0, 0))
	}
	return ns
}

// P8.4: Basic's nodes ahead, each by itself and each field of one.
func TestCheckBasic(t *testing.T) {
	holdCheck(t, "nothing", nil, api.ErrTypeNone, 0)
	holdCheck(t, "nothing", []api.TypeNode{}, api.ErrTypeNone, 0)
	for i := range 11 {
		holdCheck(t, "cut", sample()[:i], api.ErrTypeNone, i)
		holdCheck(t, "one left out", slices.Delete(sample(), i, i+1), api.ErrTypeNone, i)
		for f, do := range []func(n *api.TypeNode){
			func(n *api.TypeNode) { n.Depth = 2 }, func(n *api.TypeNode) { n.Kind = 1 }, func(n *api.TypeNode) { n.Name += "x" }, func(n *api.TypeNode) { n.Prim++ }, func(n *api.TypeNode) { n.Length = 2 },
			func(n *api.TypeNode) { n.Presence = 1 }, func(n *api.TypeNode) { n.Offset = 1 }, func(n *api.TypeNode) { n.Size++ }, func(n *api.TypeNode) { n.Null ^= 1 }, func(n *api.TypeNode) { n.Min ^= 1 },
			func(n *api.TypeNode) { n.Max ^= 1 }, func(n *api.TypeNode) { n.Const = make([]uint64, 1) }, func(n *api.TypeNode) { n.Values = make([]api.Named, 1) },
		} {
			ts := sample()
			do(&ts[i])
			holdCheck(t, "field "+strconv.Itoa(f), ts, api.ErrTypeNone, i)
			ts[min(i+1, 10)].Depth = 7
			holdCheck(t, "field "+strconv.Itoa(f)+" of the first of two", ts, api.ErrTypeNone, i)
		}
	}
	holdCheck(t, "a type ahead", append([]api.TypeNode{sample()[11]}, sample()...), api.ErrTypeNone, 0)
	long := append(sample(), make([]api.TypeNode, 30000)...)
	long[3].Depth = 0
	holdCheck(t, "too many, and not Basic's", long, api.ErrTypeNone, 3)
}

// P8.4: MaxNodes nodes are taken, one more is refused ahead of what is wrong with any.
func TestCheckMany(t *testing.T) {
	ts := types.Basic()
	for len(ts) < 20000 {
		ts = append(ts, api.TypeNode{Depth: 1, Kind: api.TypeComposite, Name: "C" + strconv.Itoa(len(ts))})
	}
	if e, n := types.Check(ts); e != api.OK || n != 0 {
		t.Errorf("20000 nodes: %d, %d", e, n)
	}
	ts = append(ts, api.TypeNode{Depth: 1, Kind: api.TypeComposite, Name: "more"})
	if e, n := types.Check(ts); e != api.ErrTypeBig || n != 20000 {
		t.Errorf("20001 nodes: %d, %d", e, n)
	}
	ts[11].Kind = 9
	if e, n := types.Check(append(ts, ts...)); e != api.ErrTypeBig || n != 20000 {
		t.Errorf("40002 nodes: %d, %d", e, n)
	}
	if e, n := types.Check(ts[:20000]); e != api.ErrTypeKind || n != 11 {
		t.Errorf("20000 nodes with a fault: %d, %d", e, n)
	}
}

// faultRow is a change to the sample, with the fault that it makes and the number of its node.
type faultRow struct {
	what string
	do   change
	err  api.Errno
	at   int
}

// faults is one thing wrong with the sample each.
func faults() []faultRow {
	var rows []faultRow
	add := func(err api.Errno, place int, what string, do change) {
		rows = append(rows, faultRow{what, do, err, place})
	}
	one := func(err api.Errno, place int, what string, do func(n *api.TypeNode)) {
		add(err, place, what, at(place, do))
	}

	for _, place := range []int{atS, atK, atE, atF, atC, atCm, atCq, atCqe, atCz, atVdata, atD, atL} {
		for _, kind := range []api.TypeKind{-1, 4, 5, math.MaxInt, math.MinInt} {
			one(api.ErrTypeKind, place, "no Kind", func(n *api.TypeNode) { n.Kind = kind })
		}
		one(api.ErrTypeName, place, "no name", func(n *api.TypeNode) { n.Name = "" })
		for _, name := range []string{"1", "a b", "a-b", "é", "a.b", "\x00", strings.Repeat("a", 65)} {
			one(api.ErrTypeName, place, name, func(n *api.TypeNode) { n.Name = name })
		}
	}
	// Depths that can't stand behind the node ahead. (Those of members take them out of their composite, whose Size comes first.)
	for _, depth := range []int{0, -1, 2, 3, math.MinInt, math.MaxInt} {
		for _, place := range []int{atS, atK, atE, atF} {
			one(api.ErrTypeKind, place, "a Depth", func(n *api.TypeNode) { n.Depth = depth })
		}
	}
	one(api.ErrTypeKind, atCk, "a member too deep", func(n *api.TypeNode) { n.Depth = 3 })
	one(api.ErrTypeKind, atC, "a composite too deep", func(n *api.TypeNode) { n.Depth = 2 })
	one(api.ErrTypeKind, atL, "a type too deep", func(n *api.TypeNode) { n.Depth = 3 })
	add(api.ErrTypeLength, atVdata, "a type too deep behind variable data", at(atD, func(n *api.TypeNode) { n.Depth = 3 }))
	one(api.ErrTypeKind, atD, "no Depth behind variable data", func(n *api.TypeNode) { n.Depth = 0 })
	add(api.ErrTypeKind, 28, "a node that nothing holds", put(28, simple(2, "y", api.Uint8, 1, 0)))
	add(api.ErrTypeKind, 29, "two deeper", put(28, composite(1, "W", 0, 0), simple(3, "y", api.Uint8, 1, 0)))
	add(api.ErrTypeKind, atCm+1, "behind what holds nothing", put(atCm+1, simple(3, "y", api.Uint8, 1, 0)))
	add(api.ErrTypeKind, atE+1, "in an enum", put(atE+1, simple(2, "y", api.Uint8, 1, 0)))
	// Fields that the Kind doesn't have.
	one(api.ErrTypeKind, atS, "values of a simple type", func(n *api.TypeNode) { n.Values = []api.Named{{Name: "a"}} })
	for _, place := range []int{atE, atF, atCqe, atCqs} {
		one(api.ErrTypeKind, place, "an enum's presence", func(n *api.TypeNode) { n.Presence = api.Optional })
		one(api.ErrTypeKind, place, "an enum that is constant", func(n *api.TypeNode) { n.Presence = api.Constant })
		one(api.ErrTypeKind, place, "an enum's elements", func(n *api.TypeNode) { n.Const = []uint64{1} })
		for _, length := range []int{0, 2, -1, math.MaxInt} {
			one(api.ErrTypeKind, place, "an enum's length", func(n *api.TypeNode) { n.Length = length })
		}
	}
	for _, place := range []int{atC, atCq, atD} {
		one(api.ErrTypeKind, place, "a composite's type", func(n *api.TypeNode) { n.Prim = 1 })
		one(api.ErrTypeKind, place, "a composite's length", func(n *api.TypeNode) { n.Length = 1 })
		one(api.ErrTypeKind, place, "a composite's presence", func(n *api.TypeNode) { n.Presence = 1 })
		one(api.ErrTypeKind, place, "a composite's null", func(n *api.TypeNode) { n.Null = 1 })
		one(api.ErrTypeKind, place, "a composite's min", func(n *api.TypeNode) { n.Min = 1 })
		one(api.ErrTypeKind, place, "a composite's max", func(n *api.TypeNode) { n.Max = 1 })
		one(api.ErrTypeKind, place, "a composite's elements", func(n *api.TypeNode) { n.Const = []uint64{0} })
		one(api.ErrTypeKind, place, "a composite's values", func(n *api.TypeNode) { n.Values = []api.Named{{}} })
	}
	add(api.ErrTypeBig, 28+16, "seventeen composites", put(28, deepNodes(17)...))
	// Names.
	for _, row := range prims {
		one(api.ErrTypeName, atS, row.name, func(n *api.TypeNode) { n.Name = row.name })
		one(api.ErrTypeName, atD, row.name, func(n *api.TypeNode) { n.Name = row.name })
	}
	one(api.ErrTypeTwice, atK, "a name twice", func(n *api.TypeNode) { n.Name = "S" })
	one(api.ErrTypeTwice, atL, "a name twice, far", func(n *api.TypeNode) { n.Name = "S" })
	one(api.ErrTypeTwice, atD, "a composite's name twice", func(n *api.TypeNode) { n.Name = "C" })
	one(api.ErrTypeTwice, atCk, "a member's name twice", func(n *api.TypeNode) { n.Name = "m" })
	one(api.ErrTypeTwice, atCz, "a member's name twice, behind another composite", func(n *api.TypeNode) { n.Name = "m" })
	one(api.ErrTypeTwice, atCz, "a composite's name at a member", func(n *api.TypeNode) { n.Name = "q" })
	one(api.ErrTypeTwice, atCqs, "a deep member's name twice", func(n *api.TypeNode) { n.Name = "x" })
	return append(rows, lengthFaults()...)
}

// lengthFaults is those of lengths, sizes and values, and all behind them.
func lengthFaults() []faultRow {
	var rows []faultRow
	add := func(err api.Errno, place int, what string, do change) {
		rows = append(rows, faultRow{what, do, err, place})
	}
	one := func(err api.Errno, place int, what string, do func(n *api.TypeNode)) {
		add(err, place, what, at(place, do))
	}
	for _, p := range []api.Prim{-1, 11, math.MaxInt, math.MinInt} {
		for _, place := range []int{atS, atK, atCm, atVdata, atL} {
			one(api.ErrTypeLength, place, "no primitive type", func(n *api.TypeNode) { n.Prim = p })
		}
	}
	for _, length := range []int{-1, 0, 2, 4, 65535, 65536, math.MaxInt, math.MinInt} {
		one(api.ErrTypeLength, atS, "a length", func(n *api.TypeNode) { n.Length = length })
	}
	one(api.ErrTypeLength, atS, "65536 bytes", func(n *api.TypeNode) { n.Length, n.Size = 32768, 65536 })
	one(api.ErrTypeLength, atS, "65536 elements", func(n *api.TypeNode) { *n = simple(1, "S", api.Uint8, 65536, 0) })
	one(api.ErrTypeLength, atK, "65536 elements of a constant", func(n *api.TypeNode) { *n = constant(1, "K", api.Uint8, make([]uint64, 65536)...) })
	one(api.ErrTypeLength, atS, "a length below 0", func(n *api.TypeNode) { n.Length, n.Size = -1, -2 })
	one(api.ErrTypeLength, atS, "no length", func(n *api.TypeNode) { *n = simple(1, "S", api.Uint8, 0, 0) })
	one(api.ErrTypeLength, atL, "no length, last of all", func(n *api.TypeNode) { *n = simple(1, "L", api.Uint8, 0, 0) })
	one(api.ErrTypeLength, atK, "a constant without length", func(n *api.TypeNode) { n.Length, n.Const = 0, nil })
	for _, n := range []int{-1, 1, 5, 7, math.MaxInt, math.MinInt} {
		add(api.ErrTypeLength, atS, "a size", size(atS, n))
		add(api.ErrTypeLength, atK, "a constant's size", size(atK, n))
	}
	add(api.ErrTypeLength, atVdata, "a size of variable data", both(size(atVdata, 1), size(atV, 3)))
	one(api.ErrTypeLength, atVdata, "variable data that is optional", func(n *api.TypeNode) { n.Presence = api.Optional })
	one(api.ErrTypeLength, atVdata, "variable data that is constant", func(n *api.TypeNode) { n.Presence = api.Constant })
	one(api.ErrTypeLength, atVdata, "variable data of no presence", func(n *api.TypeNode) { n.Presence = 3 })
	one(api.ErrTypeLength, atVdata, "variable data's null", func(n *api.TypeNode) { n.Null = 1 })
	one(api.ErrTypeLength, atVdata, "variable data's min", func(n *api.TypeNode) { n.Min = 0 })
	one(api.ErrTypeLength, atVdata, "variable data's max", func(n *api.TypeNode) { n.Max = 127 })
	add(api.ErrTypeLength, atVdata, "variable data ahead of another member", put(atVdata+1, constant(2, "c", api.Int8, 1)))
	add(api.ErrTypeLength, atVdata, "variable data ahead of what is too deep", put(atVdata+1, constant(3, "c", api.Int8, 1)))
	add(api.ErrTypeLength, atCqs+1, "variable data in a composite inside", put(atCqs+1, simple(3, "v", api.Uint8, 0, 6)))
	add(api.ErrTypeLength, 30, "variable data in a composite inside, last of all", put(28, composite(1, "W", 0, 0), composite(2, "w", 0, 0), simple(3, "v", api.Uint8, 0, 0)))
	// Values.
	for _, p := range []api.Presence{-1, 3, math.MaxInt, math.MinInt} {
		one(api.ErrTypeValue, atS, "no presence", func(n *api.TypeNode) { n.Presence = p })
	}
	one(api.ErrTypeValue, atK, "no elements", func(n *api.TypeNode) { n.Const = nil })
	one(api.ErrTypeValue, atK, "too few elements", func(n *api.TypeNode) { n.Const = []uint64{1} })
	one(api.ErrTypeValue, atK, "too many elements", func(n *api.TypeNode) { n.Const = []uint64{1, 2, 3} })
	one(api.ErrTypeValue, atK, "a first element", func(n *api.TypeNode) { n.Const = []uint64{256, 1} })
	one(api.ErrTypeValue, atK, "a last element", func(n *api.TypeNode) { n.Const = []uint64{1, 256} })
	one(api.ErrTypeValue, atCk, "an element without its sign", func(n *api.TypeNode) { n.Const = []uint64{254} })
	one(api.ErrTypeValue, atS, "elements of what is no constant", func(n *api.TypeNode) { n.Const = []uint64{1, 2, 3} })
	one(api.ErrTypeValue, atCm, "an element of what is required", func(n *api.TypeNode) { n.Const = []uint64{1} })
	one(api.ErrTypeValue, atVdata, "an element of variable data", func(n *api.TypeNode) { n.Const = []uint64{1} })
	for _, place := range []int{atS, atK, atCm, atCk} {
		one(api.ErrTypeValue, place, "a null", func(n *api.TypeNode) { n.Null = 1 << 40 })
		one(api.ErrTypeValue, place, "a min", func(n *api.TypeNode) { n.Min = 1 << 40 })
		one(api.ErrTypeValue, place, "a max", func(n *api.TypeNode) { n.Max = 1 << 40 })
	}
	return append(rows, lastFaults()...)
}

// lastFaults is those of enums, sets and offsets.
func lastFaults() []faultRow {
	var rows []faultRow
	add := func(err api.Errno, place int, what string, do change) {
		rows = append(rows, faultRow{what, do, err, place})
	}
	one := func(err api.Errno, place int, what string, do func(n *api.TypeNode)) {
		add(err, place, what, at(place, do))
	}
	// Enums and sets.
	for _, place := range []int{atE, atF, atCqe} {
		for _, p := range []api.Prim{-1, 9, 10, 11, math.MaxInt, math.MinInt} {
			one(api.ErrTypeEnum, place, "a type", func(n *api.TypeNode) {
				n.Prim, n.Null, n.Min, n.Max = p, 0, 0, 0
			})
		}
		one(api.ErrTypeEnum, place, "a null", func(n *api.TypeNode) { n.Null = 1 << 16 })
		one(api.ErrTypeEnum, place, "a min", func(n *api.TypeNode) { n.Min = 1 << 16 })
		one(api.ErrTypeEnum, place, "a max", func(n *api.TypeNode) { n.Max = 1 << 16 })
		one(api.ErrTypeEnum, place, "a value's name", func(n *api.TypeNode) { n.Values[0].Name = "" })
		one(api.ErrTypeEnum, place, "a value's long name", func(n *api.TypeNode) { n.Values[0].Name = strings.Repeat("v", 65) })
		one(api.ErrTypeEnum, place, "a value", func(n *api.TypeNode) { n.Values[0].Value = 1 << 16 })
		for _, since := range []int{-1, 65535, math.MaxInt, math.MinInt} {
			one(api.ErrTypeEnum, place, "a version", func(n *api.TypeNode) { n.Values[0].Since = since })
		}
	}
	for _, place := range []int{atE, atF} {
		one(api.ErrTypeEnum, place, "a name twice", func(n *api.TypeNode) { n.Values[1].Name = n.Values[0].Name })
		one(api.ErrTypeEnum, place, "a value twice", func(n *api.TypeNode) { n.Values[1].Value = n.Values[0].Value })
		one(api.ErrTypeEnum, place, "a last value's name", func(n *api.TypeNode) { n.Values[1].Name = "1" })
		one(api.ErrTypeEnum, place, "a last value", func(n *api.TypeNode) { n.Values[1].Value = math.MaxUint64 })
		one(api.ErrTypeEnum, place, "a last version", func(n *api.TypeNode) { n.Values[1].Since = -1 })
		for _, s := range []int{0, -1, 3, 4, 8, math.MaxInt} {
			add(api.ErrTypeEnum, place, "a size", size(place, s))
		}
	}
	for p := range api.Uint8 {
		one(api.ErrTypeEnum, atCqs, "a set of "+prims[p].name, func(n *api.TypeNode) {
			*n = coded(api.TypeSet, 3, "s", p, 5)
			n.Size = min(n.Size, 1)
		})
	}
	one(api.ErrTypeEnum, atF, "a set's null", func(n *api.TypeNode) { n.Null = 1 })
	one(api.ErrTypeEnum, atF, "a set's usual null", func(n *api.TypeNode) { n.Null = 65535 })
	one(api.ErrTypeEnum, atF, "a bit too high", func(n *api.TypeNode) { n.Values[1].Value = 16 })
	one(api.ErrTypeEnum, atCqs, "a bit too high", func(n *api.TypeNode) { n.Values[0].Value = 8 })
	one(api.ErrTypeEnum, atE, "a value too high", func(n *api.TypeNode) { n.Values[0].Value = 256 })
	// Offsets and composites' sizes.
	for _, n := range []int{-1, 1, 7, 65535, math.MaxInt, math.MinInt} {
		for _, place := range []int{atS, atK, atE, atF, atC, atV, atD, atL, atCk} {
			add(api.ErrTypeOffset, place, "an offset", offset(place, n))
		}
		for _, place := range []int{atC, atV, atD} {
			add(api.ErrTypeOffset, place, "a composite's size", size(place, n))
		}
	}
	add(api.ErrTypeOffset, atC, "a composite's size inside that its composite doesn't reach", size(atCq, 65535))
	add(api.ErrTypeOffset, atCq, "a composite's size inside", size(atCq, 5))
	add(api.ErrTypeOffset, atCq, "a composite's size inside, less than nothing", size(atCq, -6))
	add(api.ErrTypeOffset, atCq, "over the one ahead", offset(atCq, 3))
	add(api.ErrTypeOffset, atCz, "over the composite ahead", both(offset(atCz, 13), size(atC, 21)))
	add(api.ErrTypeOffset, atCz, "ahead of all", both(offset(atCz, 0), size(atC, 14)))
	add(api.ErrTypeOffset, atCm, "below 0", offset(atCm, -1))
	add(api.ErrTypeOffset, atCm, "far below 0", offset(atCm, math.MinInt))
	add(api.ErrTypeOffset, atCqe, "over the one ahead, deep", offset(atCqe, 1))
	add(api.ErrTypeOffset, atVdata, "variable data over its length", both(offset(atVdata, 1), size(atV, 2)))
	add(api.ErrTypeOffset, atVdata, "variable data at 0", offset(atVdata, 0))
	add(api.ErrTypeOffset, atVdata, "variable data below 0", offset(atVdata, -1))
	add(api.ErrTypeOffset, atVdata, "variable data too far", offset(atVdata, 65536))
	add(api.ErrTypeOffset, atV, "variable data that its composite doesn't reach", offset(atVdata, 9))
	add(api.ErrTypeOffset, atCz, "65536 bytes", both(offset(atCz, 65528), size(atC, 65536)))
	add(api.ErrTypeOffset, atCz, "an end above all blocks", both(offset(atCz, 65535), size(atC, 65543)))
	add(api.ErrTypeOffset, atCz, "an offset above all blocks", both(offset(atCz, 65536), size(atC, 14)))
	add(api.ErrTypeOffset, atCz, "an offset whose end would wrap", both(offset(atCz, math.MaxInt), size(atC, 14)))
	add(api.ErrTypeOffset, atC, "a composite that is longer than what lies in a block", both(offset(atCz, 65536), size(atC, 65544)))
	add(api.ErrTypeOffset, atC, "a composite that is shorter than its members", size(atC, 21))
	add(api.ErrTypeOffset, atC, "a composite that is longer than its members", size(atC, 23))
	add(api.ErrTypeOffset, atC, "a composite of a constant's end", both(at(atCk, func(n *api.TypeNode) { n.Offset = 30 }), size(atC, 30)))
	add(api.ErrTypeOffset, 29, "a composite inside that is too long", put(28, composite(1, "W", 0, 0), composite(2, "w", 0, 65536), simple(3, "a", api.Uint8, 1, 65535)))
	return rows
}

// P8.4: each line of the list by itself, with the number of the node.
func TestCheckFaults(t *testing.T) {
	for _, c := range faults() {
		holdCheck(t, fmt.Sprintf("%q at %d", c.what, c.at), c.do(sample()), c.err, c.at)
	}
}

// P8.4: of two faults in two nodes that of the first node is told.
func TestCheckTwoNodes(t *testing.T) {
	for _, c := range faults() {
		if c.at < 28 {
			ts := c.do(sample())
			ts = append(ts, api.TypeNode{Kind: 9})
			holdCheck(t, fmt.Sprintf("%q at %d, and one behind", c.what, c.at), ts, c.err, c.at)
		}
		ts := slices.Insert(c.do(sample()), 11, api.TypeNode{Depth: 1, Kind: api.TypeComposite, Name: "1"})
		if ts[12].Depth == 1 {
			holdCheck(t, fmt.Sprintf("%q at %d, and one ahead", c.what, c.at), ts, api.ErrTypeName, 11)
		}
	}
}

// P8.4: of several faults of one node the one that stands first in the list is told.
func TestCheckOrder(t *testing.T) {
	type step struct {
		err api.Errno
		do  func(n *api.TypeNode)
	}
	offsets := step{api.ErrTypeOffset, func(n *api.TypeNode) { n.Offset = -7 }}
	name := step{api.ErrTypeName, func(n *api.TypeNode) { n.Name = "char" }}
	twice := step{api.ErrTypeTwice, func(n *api.TypeNode) { n.Name = "S" }}
	kind := step{api.ErrTypeKind, func(n *api.TypeNode) { n.Kind = 4 }}
	simples := []step{offsets, {api.ErrTypeValue, func(n *api.TypeNode) { n.Null = 1 << 33 }}, {api.ErrTypeLength, func(n *api.TypeNode) { n.Size++ }}, twice, name, {api.ErrTypeKind, func(n *api.TypeNode) { n.Values = []api.Named{{}} }}, kind}
	enums := []step{offsets, {api.ErrTypeEnum, func(n *api.TypeNode) { n.Min = 1 << 33 }}, twice, name, {api.ErrTypeKind, func(n *api.TypeNode) { n.Length = 3 }}}
	composites := []step{{api.ErrTypeOffset, func(n *api.TypeNode) { n.Size = 77 }}, offsets, twice, name, {api.ErrTypeKind, func(n *api.TypeNode) { n.Prim = 3 }}}
	for place, steps := range map[int][]step{atK: simples, atS: simples[:3], atE: enums, atF: enums, atC: composites, atD: composites} {
		for i, a := range steps {
			for _, b := range steps[i:] {
				ts := sample()
				a.do(&ts[place])
				b.do(&ts[place])
				holdCheck(t, fmt.Sprintf("%d and %d at %d", a.err, b.err, place), ts, b.err, place)
			}
		}
	}
	deep := func(do func(n *api.TypeNode)) []api.TypeNode {
		ns := deepNodes(17)
		do(&ns[16])
		return append(types.Basic(), ns...)
	}
	holdCheck(t, "too deep, and a name", deep(func(n *api.TypeNode) { n.Name = "" }), api.ErrTypeBig, 27)
	holdCheck(t, "too deep, and a size", deep(func(n *api.TypeNode) { n.Offset = 1 }), api.ErrTypeBig, 27)
	holdCheck(t, "too deep, and a field", deep(func(n *api.TypeNode) { n.Min = 1 }), api.ErrTypeKind, 27)
	// A composite's Size is asked ahead of its members.
	ts := sample()
	ts[atC].Size, ts[atCm].Kind = 9, 9
	holdCheck(t, "a composite's size, and a member's kind", ts, api.ErrTypeOffset, atC)
	// What is no type of the four may take room all the same.
	ts = sample()
	ts[atCz].Kind = 9
	holdCheck(t, "a member's kind", ts, api.ErrTypeKind, atCz)
	ts = sample()
	ts[atVdata] = composite(2, "varData", 50, 0)
	holdCheck(t, "a composite's offset without any bytes", ts, api.ErrTypeOffset, atVdata)
}

// spoil changes something of a list of nodes, by values that stand near those that may be.
func spoil(r *rand.Rand, ts []api.TypeNode) []api.TypeNode {
	if len(ts) < 12 {
		return ts
	}
	i := 11 + r.Intn(len(ts)-11)
	n := &ts[i]
	near := func(old int) int {
		all := []int{old + 1, old - 1, 0, 1, 2, -1, old * 2, 65535, 65536, 65534, math.MaxInt, math.MinInt, old + 8, 8191, 8192}
		return all[r.Intn(len(all))]
	}
	word := func(old uint64) uint64 {
		all := []uint64{old + 1, old - 1, 0, 1, 255, 256, 65535, 65536, 1 << 31, 1 << 32, math.MaxUint64, 1 << 63, old ^ 128}
		return all[r.Intn(len(all))]
	}
	names := []string{"", "a", "m0", "m1", "m2", "T0", "T1", "uint8", "1", "x y", "length", "varData", "blockLength", strings.Repeat("n", 64), strings.Repeat("n", 65)}
	switch r.Intn(18) {
	case 0:
		n.Depth = near(n.Depth)
	case 1:
		n.Kind = api.TypeKind(r.Intn(6) - 1)
	case 2:
		n.Name = names[r.Intn(len(names))]
	case 3:
		n.Prim = api.Prim(r.Intn(13) - 1)
	case 4:
		n.Length = near(n.Length)
	case 5:
		n.Presence = api.Presence(r.Intn(5) - 1)
	case 6, 7:
		n.Offset = near(n.Offset)
	case 8, 9:
		n.Size = near(n.Size)
	case 10:
		n.Null = word(n.Null)
	case 11:
		n.Min = word(n.Min)
	case 12:
		n.Max = word(n.Max)
	case 13:
		n.Const = append(slices.Clone(n.Const), word(1))[r.Intn(2):]
	case 14:
		n.Values = append(slices.Clone(n.Values), api.Named{Name: names[r.Intn(5)], Value: uint64(r.Intn(9)), Since: near(0)})[r.Intn(2):]
	case 15:
		ts = slices.Delete(ts, i, i+1)
	case 16:
		ts = slices.Insert(ts, i, ts[r.Intn(len(ts))])
	case 17:
		k := 11 + r.Intn(len(ts)-11)
		ts[i], ts[k] = ts[k], ts[i]
	}
	return ts
}

// P8.4, P8.5, P8.6: lists that are types, and nearly so, held against the second versions of all calls.
func TestCheckRandom(t *testing.T) {
	s := &spring{Rand: rand.New(rand.NewSource(88)), kind: 1 << 30}
	seen := map[api.Errno]int{}
	for range 4000 {
		base, err, _ := types.Resolve(s.schema())
		if err != api.OK {
			base = sample()
		}
		for range 10 {
			ts := slices.Clone(base)
			for range s.Intn(4) {
				ts = spoil(s.Rand, ts)
			}
			if s.Intn(4) == 0 { // a Size that fits what was done inside
				mend(ts)
			}
			err, n := secondCheck(ts)
			seen[err]++
			if e, got := types.Check(ts); e != err || got != n {
				t.Fatalf("Check(%v) = %d, %d; want %d, %d", ts, e, got, err, n)
			}
			holdUses(t, ts, s.Intn(len(ts)+2)-1)
		}
	}
	for _, e := range []api.Errno{api.OK, api.ErrTypeName, api.ErrTypeTwice, api.ErrTypeKind, api.ErrTypeValue, api.ErrTypeOffset, api.ErrTypeEnum, api.ErrTypeLength} {
		if seen[e] < 200 {
			t.Errorf("of the answer %d only %d came by", e, seen[e])
		}
	}
}

// mend gives composites the Size that their members ask for.
func mend(ts []api.TypeNode) {
	for i := len(ts) - 1; i >= 11; i-- {
		if ts[i].Kind != api.TypeComposite {
			continue
		}
		ts[i].Size = 0
		for _, k := range members(ts, i) {
			if m := ts[k]; (m.Size > 0 || isVar(m)) && within(m.Offset) && within(m.Size) {
				ts[i].Size = max(ts[i].Size, m.Offset+m.Size)
			}
		}
	}
}
