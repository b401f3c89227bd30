package types_test

import (
	"fmt"
	"math"
	"math/rand"
	"slices"
	"strconv"
	"strings"
	"testing"

	"stencil/api"
	"stencil/decl"
	"stencil/types"
	"stencil/xmltree"
)

const (
	ahead  = "<messageSchema package='p' id='1'><types>"
	behind = "</types></messageSchema>"
)

// read is the declarations of a text.
func read(t *testing.T, s string) []api.Decl {
	t.Helper()
	es, e, at := xmltree.Parse(s)
	if e != api.OK {
		t.Fatalf("%.300s: error %d at %d", s, e, at)
	}
	ds, e, at := decl.Read(es)
	if e != api.OK {
		t.Fatalf("%.300s: declarations: error %d at %d", s, e, at)
	}
	return ds
}

func decls(t *testing.T, inner string) []api.Decl {
	t.Helper()
	return read(t, ahead+inner+behind)
}

func sameNodes(a, b []api.TypeNode) bool { return slices.EqualFunc(a, b, sameNode) }

// holdResolve holds Resolve, and the second one too, to an answer.
func holdResolve(t *testing.T, ds []api.Decl, want []api.TypeNode, err api.Errno, at int) {
	t.Helper()
	what := fmt.Sprintf("%.2000v", ds[min(2, len(ds)):])
	got, e, a := types.Resolve(ds)
	if e != err || a != at || !sameNodes(got, want) || e != api.OK && got != nil {
		t.Errorf("Resolve(%s) = %.2000v, %d, %d; want %.2000v, %d, %d", what, got, e, a, want, err, at)
	}
	got, e, a = secondResolve(ds)
	if e != err || a != at || !sameNodes(got, want) {
		t.Errorf("the test's own Resolve(%s) = %.2000v, %d, %d; want %.2000v, %d, %d", what, got, e, a, want, err, at)
	}
}

// says holds that types say these nodes, behind Basic's.
func says(t *testing.T, inner string, want ...api.TypeNode) {
	t.Helper()
	want = append(secondBasic(), want...)
	holdResolve(t, decls(t, inner), want, api.OK, 0)
	if e, n := types.Check(want); e != api.OK || n != 0 {
		t.Errorf("P8.7: Check of what %.300s says: %d, %d", inner, e, n)
	}
}

// refused holds that types are refused at the declaration that stands behind the mark ^.
func refused(t *testing.T, inner string, err api.Errno) {
	t.Helper()
	before, after, found := strings.Cut(inner, "^")
	if !found {
		t.Fatalf("%s has no mark", inner)
	}
	holdResolve(t, decls(t, before+after), nil, err, len(ahead)+len(before))
}

// taken holds that types aren't refused.
func taken(t *testing.T, inner string) []api.TypeNode {
	t.Helper()
	ds := decls(t, inner)
	want, e, at := secondResolve(ds)
	if e != api.OK {
		t.Errorf("the test's own Resolve(%.300s): %d, %d", inner, e, at)
	}
	holdResolve(t, ds, want, api.OK, 0)
	return want
}

// simple is a simple type's node with nothing written but its length.
func simple(depth int, name string, p api.Prim, length, offset int) api.TypeNode {
	row := prims[p]
	return api.TypeNode{Depth: depth, Name: name, Prim: p, Length: length, Offset: offset, Size: length * row.size, Null: row.null, Min: row.min, Max: row.max}
}

func constant(depth int, name string, p api.Prim, words ...uint64) api.TypeNode {
	n := simple(depth, name, p, len(words), 0)
	n.Presence, n.Size, n.Const = api.Constant, 0, words
	return n
}

func composite(depth int, name string, offset, size int) api.TypeNode {
	return api.TypeNode{Depth: depth, Kind: api.TypeComposite, Name: name, Offset: offset, Size: size}
}

func coded(kind api.TypeKind, depth int, name string, p api.Prim, offset int, values ...api.Named) api.TypeNode {
	n := simple(depth, name, p, 1, offset)
	n.Kind, n.Values = kind, values
	if kind == api.TypeSet {
		n.Null = 0
	}
	return n
}

// with changes a node.
func with(n api.TypeNode, change func(n *api.TypeNode)) api.TypeNode {
	change(&n)
	return n
}

// P8.1: the eleven nodes, their names, and near misses.
func TestBasic(t *testing.T) {
	if got := types.Basic(); !sameNodes(got, secondBasic()) {
		t.Errorf("Basic() = %v", got)
	}
	if n := types.Basic()[5]; !sameNode(n, api.TypeNode{Depth: 1, Kind: api.TypeSimple, Name: "uint8", Prim: api.Uint8, Length: 1, Size: 1, Null: 255, Max: 254}) {
		t.Errorf("Basic()[5] = %v", n)
	}
	for p, row := range prims {
		if got, ok := types.PrimOf(row.name); got != api.Prim(p) || !ok {
			t.Errorf("PrimOf(%q) = %d, %v", row.name, got, ok)
		}
		if got := types.NameOf(api.Prim(p)); got != row.name {
			t.Errorf("NameOf(%d) = %q", p, got)
		}
		for _, s := range []string{strings.ToUpper(row.name), " " + row.name, row.name + " ", row.name + "\x00", row.name[1:], row.name[:len(row.name)-1], row.name + "8", "sbe:" + row.name, row.name + row.name} {
			if got, ok := types.PrimOf(s); (got != 0 || ok) && s != "int8" && s != "int16" && s != "int32" && s != "int64" {
				t.Errorf("PrimOf(%q) = %d, %v", s, got, ok)
			}
		}
	}
	for _, s := range []string{"", "Uint16", "uint", "int", "uInt8", "int128", "string", "bool", "Price", "\xff", "0", "5"} {
		if got, ok := types.PrimOf(s); got != 0 || ok {
			t.Errorf("PrimOf(%q) = %d, %v", s, got, ok)
		}
	}
	for _, p := range []api.Prim{-1, 11, 12, 99, 256, math.MaxInt, math.MinInt} {
		if got := types.NameOf(p); got != "" {
			t.Errorf("NameOf(%d) = %q", p, got)
		}
	}
}

// P8.2: no types say Basic's nodes, wherever nothing is.
func TestNoTypes(t *testing.T) {
	says(t, "")
	for _, s := range []string{"<messageSchema package='p' id='1'/>", "<messageSchema package='p' id='1'><message name='m' id='1'><field name='f' id='1' type='Nothing'/></message></messageSchema>"} {
		holdResolve(t, read(t, s), secondBasic(), api.OK, 0)
	}
}

// P8.2: simple types, the chapter's second example among them.
func TestSimple(t *testing.T) {
	says(t, "<type name='Price' primitiveType='int64' nullValue='-1'/>", with(simple(1, "Price", api.Int64, 1, 0), func(n *api.TypeNode) { n.Null = word(-1) }))
	says(t, "<type name='Sym' primitiveType='char' length='6'/>", simple(1, "Sym", api.Char, 6, 0))
	for p, row := range prims {
		says(t, "<type name='A' primitiveType='"+row.name+"'/>", simple(1, "A", api.Prim(p), 1, 0))
		says(t, "<type name='A' primitiveType='"+row.name+"' length='1' offset='7' presence='required'/>", simple(1, "A", api.Prim(p), 1, 0))
		says(t, "<type name='A' primitiveType='"+row.name+"' length='3' presence='optional'/>", with(simple(1, "A", api.Prim(p), 3, 0), func(n *api.TypeNode) { n.Presence = api.Optional }))
		most := 65535 / row.size
		says(t, "<type name='A' primitiveType='"+row.name+"' length='"+strconv.Itoa(most)+"'/>", simple(1, "A", api.Prim(p), most, 0))
		if row.size > 1 {
			refused(t, "^<type name='A' primitiveType='"+row.name+"' length='"+strconv.Itoa(most+1)+"'/>", api.ErrTypeLength)
			refused(t, "^<type name='A' primitiveType='"+row.name+"' length='65535' presence='optional'/>", api.ErrTypeLength)
		}
	}
	says(t, "<type name='A' primitiveType='int8' nullValue='-128' minValue='-5' maxValue='0x7f' presence='optional'/>",
		with(simple(1, "A", api.Int8, 1, 0), func(n *api.TypeNode) { n.Presence, n.Min = api.Optional, word(-5) }))
	says(t, "<type name='A' primitiveType='uint16' minValue='9' maxValue='3' nullValue='0'/>",
		with(simple(1, "A", api.Uint16, 1, 0), func(n *api.TypeNode) { n.Null, n.Min, n.Max = 0, 9, 3 }))
	says(t, "<type name='A' primitiveType='char' nullValue='A' minValue=' ' maxValue='#255' length='2'/>",
		with(simple(1, "A", api.Char, 2, 0), func(n *api.TypeNode) { n.Null, n.Min, n.Max = 65, 32, 255 }))
	says(t, "<type name='A' primitiveType='float' nullValue='INF' minValue='1' maxValue='0x00000001'/>",
		with(simple(1, "A", api.Float, 1, 0), func(n *api.TypeNode) { n.Null, n.Min, n.Max = 0x7f800000, 0x3f800000, 1 }))
	says(t, "<type name='A' primitiveType='uint8'/><type name='a' primitiveType='double' length='2'/><type name='Char' primitiveType='int16' description='d' semanticType='s'/>",
		simple(1, "A", api.Uint8, 1, 0), simple(1, "a", api.Double, 2, 0), simple(1, "Char", api.Int16, 1, 0))
	long := strings.Repeat("z", 64)
	says(t, "<type name='"+long+"' primitiveType='uint8'/>", simple(1, long, api.Uint8, 1, 0))
}

// P8.2: constants, the chapter's second example among them.
func TestConstants(t *testing.T) {
	says(t, "<type name='Kind' primitiveType='char' presence='constant'>AB</type>", constant(1, "Kind", api.Char, 65, 66))
	says(t, "<type name='Kind' primitiveType='char' presence='constant' length='3'>AB</type>", constant(1, "Kind", api.Char, 65, 66, 0))
	says(t, "<type name='Kind' primitiveType='char' presence='constant' length='2'>AB</type>", constant(1, "Kind", api.Char, 65, 66))
	refused(t, "^<type name='Kind' primitiveType='char' presence='constant' length='1'>AB</type>", api.ErrTypeValue)
	says(t, "<type name='Kind' primitiveType='char' presence='constant'> #1,é\n</type>", constant(1, "Kind", api.Char, '#', '1', ',', 0xc3, 0xa9))
	says(t, "<type name='N' primitiveType='uint8' presence='constant' length='2'>1,2</type>", constant(1, "N", api.Uint8, 1, 2))
	says(t, "<type name='N' primitiveType='int32' presence='constant'>-7</type>", constant(1, "N", api.Int32, word(-7)))
	says(t, "<type name='N' primitiveType='int32' presence='constant' length='1' nullValue='3' offset='9'>0x10</type>", with(constant(1, "N", api.Int32, 16), func(n *api.TypeNode) { n.Null = 3 }))
	says(t, "<type name='N' primitiveType='double' presence='constant' length='3'>1,NaN,-INF</type>", constant(1, "N", api.Double, 0x3ff0000000000000, 0x7ff8000000000000, 0xfff0000000000000))
	full := strings.Repeat("q", 65535)
	says(t, "<type name='K' primitiveType='char' presence='constant'>"+full+"</type>", constant(1, "K", api.Char, slices.Repeat([]uint64{'q'}, 65535)...))
	says(t, "<type name='K' primitiveType='char' presence='constant' length='65535'>x</type>", constant(1, "K", api.Char, append([]uint64{'x'}, make([]uint64, 65534)...)...))
	refused(t, "^<type name='K' primitiveType='char' presence='constant'>"+full+"q</type>", api.ErrTypeLength)
	// A constant takes no bytes: only its length has a bound.
	says(t, "<type name='K' primitiveType='int64' presence='constant' length='8192'>"+strings.Repeat("1,", 8191)+"1</type>", constant(1, "K", api.Int64, slices.Repeat([]uint64{1}, 8192)...))
	says(t, "<type name='K' primitiveType='int64' presence='constant' length='65535'>"+strings.Repeat("2,", 65534)+"2</type>", constant(1, "K", api.Int64, slices.Repeat([]uint64{2}, 65535)...))
	for _, s := range []string{
		"^<type name='K' primitiveType='char' presence='constant'/>",
		"^<type name='K' primitiveType='char' presence='constant' length='3'>  </type>",
		"^<type name='K' primitiveType='char' presence='constant' length='2'>é!</type>",
		"^<type name='K' primitiveType='uint8' presence='constant'/>",
		"^<type name='K' primitiveType='uint8' presence='constant' length='2'/>",
		"^<type name='K' primitiveType='uint8' presence='constant'>1,2</type>",
		"^<type name='K' primitiveType='uint8' presence='constant' length='3'>1,2</type>",
		"^<type name='K' primitiveType='uint8' presence='constant' length='2'>1</type>",
		"^<type name='K' primitiveType='uint8' presence='constant'>256</type>",
		"^<type name='K' primitiveType='uint8' presence='constant'>x</type>",
		"^<type name='K' primitiveType='uint8' presence='constant' length='2'>1, 2</type>",
		"^<type name='K' primitiveType='uint8' presence='constant' length='2'>1,</type>",
		"^<type name='K' primitiveType='float' presence='constant'>1e39</type>",
		"^<type name='K' primitiveType='uint8' presence='constant' nullValue='x'>1</type>",
		"^<type name='K' primitiveType='uint8' presence='constant' minValue='-1'>1</type>",
		"^<type name='K' primitiveType='uint8' presence='constant' maxValue='256'>1</type>",
		"^<type name='K' primitiveType='char' presence='constant' maxValue='AB'>1</type>",
	} {
		refused(t, s, api.ErrTypeValue)
	}
}

// P8.2: nulls and bounds that say no value.
func TestNoValues(t *testing.T) {
	for _, name := range []string{"nullValue", "minValue", "maxValue"} {
		for p, texts := range map[string][]string{
			"char": {"AB", "#256", "é", "&#9;"}, "int8": {"128", "-129", "x", " 1", "1 ", "1.0", "0xff"}, "uint8": {"256", "-1", "A"}, "uint64": {"18446744073709551616"},
			"float": {"1e39", "nan", "0x1"}, "double": {"1e309", "0x3f800000", "."},
		} {
			for _, s := range texts {
				refused(t, "^<type name='A' primitiveType='"+p+"' "+name+"='"+s+"'/>", api.ErrTypeValue)
				refused(t, "<composite name='C'>^<type name='A' primitiveType='"+p+"' length='3' presence='optional' "+name+"='"+s+"'/></composite>", api.ErrTypeValue)
			}
		}
	}
}

// P8.2: variable data is the last member of a composite that is a type; what else is written at it isn't looked at.
func TestVariableData(t *testing.T) {
	v := simple(2, "v", api.Uint8, 0, 0)
	says(t, "<composite name='C'><type name='v' primitiveType='uint8' length='0'/></composite>", composite(1, "C", 0, 0), v)
	says(t, "<composite name='C'><type name='length' primitiveType='uint16'/><type name='varData' primitiveType='char' length='0'/></composite>",
		composite(1, "C", 0, 2), simple(2, "length", api.Uint16, 1, 0), simple(2, "varData", api.Char, 0, 2))
	says(t, "<composite name='C'><type name='x' primitiveType='uint16'/><type name='v' primitiveType='double' length='0' presence='optional' nullValue='zero' minValue='--' maxValue='no'/></composite>",
		composite(1, "C", 0, 2), simple(2, "x", api.Uint16, 1, 0), simple(2, "v", api.Double, 0, 2))
	says(t, "<composite name='C'><type name='x' primitiveType='uint16'/><type name='v' primitiveType='int8' length='0' offset='9' presence='required'/></composite><type name='D' primitiveType='int8'/>",
		composite(1, "C", 0, 9), simple(2, "x", api.Uint16, 1, 0), simple(2, "v", api.Int8, 0, 9), simple(1, "D", api.Int8, 1, 0))
	says(t, "<composite name='C'><type name='v' primitiveType='uint8' length='0' offset='65535'/></composite>", composite(1, "C", 0, 65535), simple(2, "v", api.Uint8, 0, 65535))
	says(t, "<composite name='C'><composite name='q'><type name='x' primitiveType='uint16'/></composite><type name='v' primitiveType='int8' length='0'/></composite>",
		composite(1, "C", 0, 2), composite(2, "q", 0, 2), simple(3, "x", api.Uint16, 1, 0), simple(2, "v", api.Int8, 0, 2))
	for _, s := range []string{
		"^<type name='A' primitiveType='uint8' length='0'/>",
		"^<type name='A' primitiveType='uint8' length='0' presence='constant'>1</type>",
		"<composite name='C'>^<type name='a' primitiveType='uint8' length='0'/><type name='b' primitiveType='uint8'/></composite>",
		"<composite name='C'>^<type name='a' primitiveType='uint8' length='0'/><ref name='b' type='uint8'/></composite>",
		"<composite name='C'>^<type name='a' primitiveType='uint8' length='0'/><composite name='b'/></composite>",
		"<composite name='C'>^<type name='a' primitiveType='uint8' length='0'/><type name='b' primitiveType='uint8' length='0'/></composite>",
		"<composite name='C'><composite name='q'>^<type name='a' primitiveType='uint8' length='0'/></composite></composite>",
		"<composite name='C'><composite name='q'><composite name='q'>^<type name='a' primitiveType='uint8' length='0'/></composite></composite></composite>",
		"<composite name='C'>^<type name='a' primitiveType='uint8' length='0' presence='constant'>1</type></composite>",
		"<composite name='C'>^<type name='a' primitiveType='char' length='0' presence='constant'/></composite>",
	} {
		refused(t, s, api.ErrTypeLength)
	}
	refused(t, "<composite name='C'><type name='x' primitiveType='uint16'/>^<type name='v' primitiveType='int8' length='0' offset='1'/></composite>", api.ErrTypeOffset)
}

// P8.2: enums, the chapter's sixth example among them.
func TestEnums(t *testing.T) {
	says(t, "<enum name='Side' encodingType='char'><validValue name='Buy'>1</validValue><validValue name='Sell' sinceVersion='3' deprecated='4'> 2 </validValue></enum>",
		coded(api.TypeEnum, 1, "Side", api.Char, 0, api.Named{Name: "Buy", Value: 49}, api.Named{Name: "Sell", Value: 50, Since: 3}))
	refused(t, "<enum name='Side' encodingType='char'><validValue name='Buy'>1</validValue>^<validValue name='Sell'>1</validValue></enum>", api.ErrTypeEnum)
	price := with(simple(1, "Price", api.Int64, 1, 0), func(n *api.TypeNode) { n.Null, n.Presence = word(-1), api.Optional })
	e := with(coded(api.TypeEnum, 1, "E", api.Int64, 0, api.Named{Name: "A", Value: word(-9)}), func(n *api.TypeNode) { n.Null = word(-1) })
	says(t, "<type name='Price' primitiveType='int64' nullValue='-1' presence='optional'/><enum name='E' encodingType='Price'><validValue name='A'>-9</validValue></enum>", price, e)
	says(t, "<enum name='E' encodingType='Price' offset='5'><validValue name='A'>-9</validValue></enum><type name='Price' primitiveType='int64' nullValue='-1' presence='optional'/>", e, price)
	says(t, "<enum name='E' encodingType='T'/><type name='T' primitiveType='uint8' minValue='3' maxValue='9' length='1'/>",
		with(coded(api.TypeEnum, 1, "E", api.Uint8, 0), func(n *api.TypeNode) { n.Min, n.Max = 3, 9 }),
		with(simple(1, "T", api.Uint8, 1, 0), func(n *api.TypeNode) { n.Min, n.Max = 3, 9 }))
	for p, row := range prims[:api.Float] {
		says(t, "<enum name='E' encodingType='"+row.name+"'><validValue name='char'>7</validValue><validValue name='E'>8</validValue></enum>",
			coded(api.TypeEnum, 1, "E", api.Prim(p), 0, api.Named{Name: "char", Value: 7 + 48*uint64(1-min(p, 1))}, api.Named{Name: "E", Value: 8 + 48*uint64(1-min(p, 1))}))
	}
	// The null value and what lies outside the bounds are values too.
	says(t, "<enum name='E' encodingType='uint8'><validValue name='a'>255</validValue><validValue name='b'>0</validValue></enum>",
		coded(api.TypeEnum, 1, "E", api.Uint8, 0, api.Named{Name: "a", Value: 255}, api.Named{Name: "b", Value: 0}))
	for s, err := range map[string]api.Errno{
		"^<enum name='E' encodingType='Nothing'/>": api.ErrTypeNone,
		"^<enum name='E' encodingType='x'/><composite name='C'><type name='x' primitiveType='uint8'/></composite>": api.ErrTypeNone,
		"^<enum name='E' encodingType='p'/>":                                                                                                                      api.ErrTypeNone,
		"^<enum name='E' encodingType='float'/>":                                                                                                                  api.ErrTypeKind,
		"^<enum name='E' encodingType='double'/>":                                                                                                                 api.ErrTypeKind,
		"^<enum name='E' encodingType='E'/>":                                                                                                                      api.ErrTypeKind,
		"^<enum name='E' encodingType='Sym'/><type name='Sym' primitiveType='char' length='6'/>":                                                                  api.ErrTypeKind,
		"<type name='Sym' primitiveType='char' length='2'/>^<enum name='E' encodingType='Sym'/>":                                                                  api.ErrTypeKind,
		"<type name='F' primitiveType='float'/>^<enum name='E' encodingType='F'/>":                                                                                api.ErrTypeKind,
		"<type name='F' primitiveType='double'/>^<enum name='E' encodingType='F'/>":                                                                               api.ErrTypeKind,
		"<type name='K' primitiveType='uint8' presence='constant'>1</type>^<enum name='E' encodingType='K'/>":                                                     api.ErrTypeKind,
		"<type name='K' primitiveType='char' presence='constant'>1</type>^<enum name='E' encodingType='K'/>":                                                      api.ErrTypeKind,
		"<composite name='C'/>^<enum name='E' encodingType='C'/>":                                                                                                 api.ErrTypeKind,
		"<enum name='D' encodingType='uint8'/>^<enum name='E' encodingType='D'/>":                                                                                 api.ErrTypeKind,
		"<set name='D' encodingType='uint8'/>^<enum name='E' encodingType='D'/>":                                                                                  api.ErrTypeKind,
		"^<enum name='E' encodingType='T'/><type name='T' primitiveType='T'/>":                                                                                    api.ErrTypeKind,
		"^<enum name='E' encodingType='T'/><type name='T' primitiveType='uint8' length='0'/>":                                                                     api.ErrTypeKind,
		"<enum name='E' encodingType='T'/>^<type name='T' primitiveType='uint8' nullValue='x'/>":                                                                  api.ErrTypeValue,
		"<enum name='E' encodingType='char'><validValue name='A'>1</validValue>^<validValue name='A'>2</validValue></enum>":                                       api.ErrTypeTwice,
		"<enum name='E' encodingType='char'>^<validValue name='A'>12</validValue></enum>":                                                                         api.ErrTypeEnum,
		"<enum name='E' encodingType='uint8'>^<validValue name='A'>256</validValue></enum>":                                                                       api.ErrTypeEnum,
		"<enum name='E' encodingType='uint8'>^<validValue name='A'>-1</validValue></enum>":                                                                        api.ErrTypeEnum,
		"<enum name='E' encodingType='uint8'>^<validValue name='A'>x</validValue></enum>":                                                                         api.ErrTypeEnum,
		"<enum name='E' encodingType='uint8'><validValue name='A'>0x1</validValue>^<validValue name='B'>01</validValue></enum>":                                   api.ErrTypeEnum,
		"<enum name='E' encodingType='T'><validValue name='A'>127</validValue>^<validValue name='B'>128</validValue></enum><type name='T' primitiveType='int8'/>": api.ErrTypeEnum,
		"<composite name='C'><enum name='E' encodingType='uint8'><validValue name='A'>0</validValue>^<validValue name='B'>0</validValue></enum></composite>":      api.ErrTypeEnum,
		"<composite name='C'>^<enum name='E' encodingType='float'/></composite>":                                                                                  api.ErrTypeKind,
		"<composite name='C'>^<enum name='E' encodingType='C'/></composite>":                                                                                      api.ErrTypeKind,
	} {
		refused(t, s, err)
	}
}

// P8.2: sets, the chapter's seventh example among them.
func TestSets(t *testing.T) {
	says(t, "<set name='Flags' encodingType='uint8'><choice name='a'>0</choice><choice name='b'>7</choice></set>",
		coded(api.TypeSet, 1, "Flags", api.Uint8, 0, api.Named{Name: "a", Value: 0}, api.Named{Name: "b", Value: 7}))
	says(t, "<set name='F' encodingType='T'><choice name='a' sinceVersion='65534'>007</choice></set><type name='T' primitiveType='uint16' nullValue='5' minValue='3' maxValue='9' presence='optional'/>",
		with(coded(api.TypeSet, 1, "F", api.Uint16, 0, api.Named{Name: "a", Value: 7, Since: 65534}), func(n *api.TypeNode) { n.Min, n.Max = 3, 9 }),
		with(simple(1, "T", api.Uint16, 1, 0), func(n *api.TypeNode) { n.Presence, n.Null, n.Min, n.Max = api.Optional, 5, 3, 9 }))
	for p := api.Uint8; p <= api.Uint64; p++ {
		name, most := prims[p].name, uint64(8*prims[p].size-1)
		says(t, fmt.Sprintf("<set name='F' encodingType='%s'><choice name='z'>%d</choice><choice name='a'>0</choice></set>", name, most),
			coded(api.TypeSet, 1, "F", p, 0, api.Named{Name: "z", Value: most}, api.Named{Name: "a", Value: 0}))
		refused(t, fmt.Sprintf("<set name='F' encodingType='%s'><choice name='a'>0</choice>^<choice name='z'>%d</choice></set>", name, most+1), api.ErrTypeEnum)
	}
	for _, name := range []string{"char", "int8", "int16", "int32", "int64", "float", "double"} {
		refused(t, "^<set name='F' encodingType='"+name+"'/>", api.ErrTypeKind)
		refused(t, "<type name='T' primitiveType='"+name+"'/>^<set name='F' encodingType='T'/>", api.ErrTypeKind)
	}
	for s, err := range map[string]api.Errno{
		"^<set name='F' encodingType='Uint8'/>":                                                                   api.ErrTypeNone,
		"^<set name='F' encodingType='T'/><type name='T' primitiveType='uint8' length='2'/>":                      api.ErrTypeKind,
		"^<set name='F' encodingType='T'/><type name='T' primitiveType='uint8' presence='constant'>1</type>":      api.ErrTypeKind,
		"^<set name='F' encodingType='F'/>":                                                                       api.ErrTypeKind,
		"<set name='F' encodingType='uint8'>^<choice name='a'>-0</choice></set>":                                  api.ErrTypeEnum,
		"<set name='F' encodingType='uint8'>^<choice name='a'>0x1</choice></set>":                                 api.ErrTypeEnum,
		"<set name='F' encodingType='uint8'>^<choice name='a'>+1</choice></set>":                                  api.ErrTypeEnum,
		"<set name='F' encodingType='uint8'>^<choice name='a'>x</choice></set>":                                   api.ErrTypeEnum,
		"<set name='F' encodingType='uint8'><choice name='a'>1</choice>^<choice name='b'>01</choice></set>":       api.ErrTypeEnum,
		"<set name='F' encodingType='uint8'><choice name='a'>1</choice>^<choice name='a'>2</choice></set>":        api.ErrTypeTwice,
		"<set name='F' encodingType='uint8'><choice name='a'>1</choice>^<choice name='a'>1</choice></set>":        api.ErrTypeTwice,
		"<set name='F' encodingType='uint8'><choice name='a'>1</choice>^<choice name='a'>9</choice></set>":        api.ErrTypeTwice,
		"<composite name='C'><set name='F' encodingType='uint8'>^<choice name='a'>8</choice></set></composite>":   api.ErrTypeEnum,
		"<composite name='C'>^<set name='F' encodingType='int8'><choice name='a'>8</choice></set></composite>":    api.ErrTypeKind,
		"<composite name='C'><type name='T' primitiveType='uint8'/>^<set name='F' encodingType='T'/></composite>": api.ErrTypeNone,
	} {
		refused(t, s, err)
	}
}

const dec = "<composite name='Dec'><type name='m' primitiveType='int32'/><type name='e' primitiveType='int8' presence='constant'>-2</type><type name='f' primitiveType='uint8' offset='6'/></composite>"

// decNodes is what Dec says, at a Depth, by a name, at an offset.
func decNodes(depth int, name string, offset int) []api.TypeNode {
	return []api.TypeNode{composite(depth, name, offset, 7), simple(depth+1, "m", api.Int32, 1, 0), constant(depth+1, "e", api.Int8, word(-2)), simple(depth+1, "f", api.Uint8, 1, 6)}
}

// P8.2: composites, the chapter's fourth and fifth examples among them.
func TestComposites(t *testing.T) {
	says(t, dec, decNodes(1, "Dec", 0)...)
	refused(t, strings.Replace(dec, "<type name='f' primitiveType='uint8' offset='6'", "^<type name='f' primitiveType='uint8' offset='3'", 1), api.ErrTypeOffset)
	var ns []api.TypeNode
	ns = append(ns, composite(1, "P", 0, 14))
	ns = append(ns, decNodes(2, "a", 0)...)
	ns = append(ns, decNodes(2, "b", 7)...)
	ns = append(ns, decNodes(1, "Dec", 0)...)
	says(t, "<composite name='P'><ref name='a' type='Dec'/><ref name='b' type='Dec'/></composite>"+dec, ns...)
	refused(t, "^<composite name='P'><ref name='a' type='Dec'/><ref name='b' type='Dec'/><ref name='c' type='P'/></composite>"+dec, api.ErrTypeCycle)
	says(t, "<composite name='C'/>", composite(1, "C", 0, 0))
	says(t, "<composite name='C' offset='9' description='d'><composite name='C' offset='9'/></composite>", composite(1, "C", 0, 0), composite(2, "C", 0, 0))
	// What takes no bytes has no offset and no room, wherever it is written.
	says(t, "<composite name='C'><type name='a' primitiveType='uint8' offset='4'/><type name='k' primitiveType='uint8' presence='constant' offset='2'>1</type><composite name='q' offset='1'><type name='k' primitiveType='uint8' presence='constant' offset='9'>1</type></composite><type name='b' primitiveType='uint8' offset='5'/></composite>",
		composite(1, "C", 0, 6), simple(2, "a", api.Uint8, 1, 4), constant(2, "k", api.Uint8, 1), composite(2, "q", 0, 0), constant(3, "k", api.Uint8, 1), simple(2, "b", api.Uint8, 1, 5))
	says(t, "<composite name='C'><ref name='k' type='K' offset='65535'/><ref name='e' type='E' offset='65535'/><type name='b' primitiveType='uint8'/></composite><type name='K' primitiveType='char' presence='constant'>xy</type><composite name='E'/>",
		composite(1, "C", 0, 1), constant(2, "k", api.Char, 'x', 'y'), composite(2, "e", 0, 0), simple(2, "b", api.Uint8, 1, 0), constant(1, "K", api.Char, 'x', 'y'), composite(1, "E", 0, 0))
	// Composites in composites, each laid by itself.
	says(t, "<composite name='C'><type name='a' primitiveType='uint16' offset='1'/><composite name='q' offset='10'><type name='a' primitiveType='uint32' offset='2'/><composite name='r'><enum name='e' encodingType='uint8'><validValue name='v'>1</validValue></enum><set name='s' encodingType='uint16' offset='3'/></composite></composite><type name='b' primitiveType='uint8'/></composite>",
		composite(1, "C", 0, 22), simple(2, "a", api.Uint16, 1, 1), composite(2, "q", 10, 11), simple(3, "a", api.Uint32, 1, 2), composite(3, "r", 6, 5),
		coded(api.TypeEnum, 4, "e", api.Uint8, 0, api.Named{Name: "v", Value: 1}), coded(api.TypeSet, 4, "s", api.Uint16, 3), simple(2, "b", api.Uint8, 1, 21))
	says(t, "<composite name='C'><type name='a' primitiveType='char' length='65534'/><type name='b' primitiveType='uint8'/></composite>",
		composite(1, "C", 0, 65535), simple(2, "a", api.Char, 65534, 0), simple(2, "b", api.Uint8, 1, 65534))
	says(t, "<composite name='C'><type name='a' primitiveType='uint8' offset='65534'/></composite>", composite(1, "C", 0, 65535), simple(2, "a", api.Uint8, 1, 65534))
}

// P8.2: refs of every kind of type, in any order, and names that a type has in several places.
func TestRefs(t *testing.T) {
	says(t, "<composite name='C'><ref name='a' type='uint16' offset='3'/><ref name='b' type='T'/><ref name='c' type='E'/><ref name='d' type='F'/><ref name='e' type='D'/></composite><type name='T' primitiveType='char' length='3' presence='optional' nullValue='N' offset='99'/><enum name='E' encodingType='U' offset='98'><validValue name='x'>4</validValue></enum><set name='F' encodingType='U' offset='97'><choice name='y'>5</choice></set><composite name='D' offset='96'><type name='z' primitiveType='uint8' offset='2'/></composite><type name='U' primitiveType='uint32' nullValue='77'/>",
		composite(1, "C", 0, 19), simple(2, "a", api.Uint16, 1, 3),
		with(simple(2, "b", api.Char, 3, 5), func(n *api.TypeNode) { n.Presence, n.Null = api.Optional, 'N' }),
		with(coded(api.TypeEnum, 2, "c", api.Uint32, 8, api.Named{Name: "x", Value: 4}), func(n *api.TypeNode) { n.Null = 77 }),
		coded(api.TypeSet, 2, "d", api.Uint32, 12, api.Named{Name: "y", Value: 5}),
		composite(2, "e", 16, 3), simple(3, "z", api.Uint8, 1, 2),
		with(simple(1, "T", api.Char, 3, 0), func(n *api.TypeNode) { n.Presence, n.Null = api.Optional, 'N' }),
		with(coded(api.TypeEnum, 1, "E", api.Uint32, 0, api.Named{Name: "x", Value: 4}), func(n *api.TypeNode) { n.Null = 77 }),
		coded(api.TypeSet, 1, "F", api.Uint32, 0, api.Named{Name: "y", Value: 5}),
		composite(1, "D", 0, 3), simple(2, "z", api.Uint8, 1, 2),
		with(simple(1, "U", api.Uint32, 1, 0), func(n *api.TypeNode) { n.Null = 77 }))
	// Refs in refs, and in a composite inside.
	says(t, "<composite name='A'><composite name='q'><ref name='b' type='B' offset='1'/></composite></composite><composite name='B'><ref name='c' type='C' offset='2'/><ref name='A' type='C'/></composite><composite name='C'><type name='uint8' primitiveType='uint8' offset='3'/></composite>",
		composite(1, "A", 0, 11), composite(2, "q", 0, 11), composite(3, "b", 1, 10), composite(4, "c", 2, 4), simple(5, "uint8", api.Uint8, 1, 3), composite(4, "A", 6, 4), simple(5, "uint8", api.Uint8, 1, 3),
		composite(1, "B", 0, 10), composite(2, "c", 2, 4), simple(3, "uint8", api.Uint8, 1, 3), composite(2, "A", 6, 4), simple(3, "uint8", api.Uint8, 1, 3),
		composite(1, "C", 0, 4), simple(2, "uint8", api.Uint8, 1, 3))
	for s, err := range map[string]api.Errno{
		"<composite name='P'>^<ref name='c' type='Nothing'/></composite>":                                                                                                                                    api.ErrTypeNone,
		"<composite name='P'><type name='x' primitiveType='uint8'/>^<ref name='c' type='x'/></composite>":                                                                                                    api.ErrTypeNone,
		"<composite name='P'><composite name='q'/>^<ref name='c' type='q'/></composite>":                                                                                                                     api.ErrTypeNone,
		"<composite name='P'>^<ref name='c' type='T'/></composite><composite name='T'><type name='l' primitiveType='uint8'/><type name='v' primitiveType='uint8' length='0'/></composite>":                   api.ErrTypeKind,
		"<composite name='T'><type name='v' primitiveType='char' length='0'/></composite><composite name='P'><composite name='q'>^<ref name='c' type='T'/></composite></composite>":                          api.ErrTypeKind,
		"<composite name='P'>^<ref name='c' type='P'/><type name='v' primitiveType='uint8' length='0'/></composite>":                                                                                         api.ErrTypeKind,
		"<composite name='P'>^<ref name='c' type='T'/></composite><composite name='T'><type name='v' primitiveType='uint8' length='0'/><type name='l' primitiveType='uint8'/></composite>":                   api.ErrTypeKind,
		"<composite name='P'><ref name='c' type='T'/></composite><composite name='T'><composite name='q'>^<type name='v' primitiveType='uint8' length='0'/></composite></composite>":                         api.ErrTypeLength,
		"<composite name='P'><ref name='c' type='T'/></composite>^<type name='T' primitiveType='uint8' length='0'/>":                                                                                         api.ErrTypeLength,
		"<composite name='P'><ref name='c' type='Q'/></composite><composite name='Q'>^<ref name='c' type='T'/></composite><composite name='T'><type name='v' primitiveType='uint8' length='0'/></composite>": api.ErrTypeKind,
	} {
		refused(t, s, err)
	}
}

// P8.2: names that are taken.
func TestNames(t *testing.T) {
	for _, row := range prims {
		for _, s := range []string{"<type name='%s' primitiveType='uint8'/>", "<composite name='%s'/>", "<enum name='%s' encodingType='uint8'/>", "<set name='%s' encodingType='uint8'/>"} {
			refused(t, "<type name='A' primitiveType='uint8'/>^"+fmt.Sprintf(s, row.name), api.ErrTypeName)
		}
		// Members, values and bits may have such names.
		taken(t, fmt.Sprintf("<composite name='C'><type name='%[1]s' primitiveType='%[1]s'/></composite><set name='F' encodingType='uint8'><choice name='%[1]s'>1</choice></set>", row.name))
	}
	kinds := []string{"<type name='A' primitiveType='uint8'/>", "<composite name='A'/>", "<enum name='A' encodingType='uint8'/>", "<set name='A' encodingType='uint8'/>"}
	for _, a := range kinds {
		for _, b := range kinds {
			refused(t, a+"^"+b, api.ErrTypeTwice)
			refused(t, a+"</types><message name='m' id='1'/><types/><types>^"+b, api.ErrTypeTwice)
			refused(t, "<composite name='C'>"+a+"^"+b+"</composite>", api.ErrTypeTwice)
			refused(t, "<composite name='C'>"+a+"<type name='B' primitiveType='uint8'/>^<ref name='A' type='uint8'/></composite>", api.ErrTypeTwice)
			taken(t, "<composite name='C'>"+a+"<composite name='B'>"+b+"</composite></composite><composite name='B'>"+a+"</composite>"+b)
		}
	}
}

// P8.2: the types of several DeclTypes are one row; what stands in messages is no type.
func TestSeveralTypes(t *testing.T) {
	s := "<messageSchema package='p' id='1'><message name='A' id='1'><field name='B' id='1' type='Nothing'/><group name='uint8' id='2'><field name='B' id='3' type='C'/></group></message><types><type name='B' primitiveType='uint8'/></types><types/><message name='B' id='2'/><types><composite name='C'><ref name='b' type='B'/></composite><type name='A' primitiveType='int8'/></types><message name='D' id='3'/></messageSchema>"
	want := append(secondBasic(), simple(1, "B", api.Uint8, 1, 0), composite(1, "C", 0, 1), simple(2, "b", api.Uint8, 1, 0), simple(1, "A", api.Int8, 1, 0))
	holdResolve(t, read(t, s), want, api.OK, 0)
	// The last of a composite is so with anything behind it.
	s = "<messageSchema package='p' id='1'><types><composite name='C'><type name='v' primitiveType='uint8' length='0'/></composite></types><message name='D' id='3'><field name='f' id='1' type='x'/></message></messageSchema>"
	holdResolve(t, read(t, s), append(secondBasic(), composite(1, "C", 0, 0), simple(2, "v", api.Uint8, 0, 0)), api.OK, 0)
}

// P8.2: what is no declarations is refused at 0, whatever else is wrong.
func TestNoDeclarations(t *testing.T) {
	for _, ds := range [][]api.Decl{nil, {}, {{}}, {{Depth: 1, Kind: api.DeclTypes}}, make([]api.Decl, 30)} {
		holdResolve(t, ds, nil, api.ErrDeclMade, 0)
	}
	for n, spoil := range []func(d *api.Decl){
		func(d *api.Decl) { d.Name = "1" }, func(d *api.Decl) { d.Name = "" }, func(d *api.Decl) { d.Name = strings.Repeat("a", 65) }, func(d *api.Decl) { d.Type = "" }, func(d *api.Decl) { d.Type = "a b" },
		func(d *api.Decl) { d.Depth = 2 }, func(d *api.Decl) { d.Depth = 4 }, func(d *api.Decl) { d.Depth = math.MaxInt }, func(d *api.Decl) { d.Depth = math.MinInt },
		func(d *api.Decl) { d.Kind = -1 }, func(d *api.Decl) { d.Kind = 13 }, func(d *api.Decl) { d.Kind = api.DeclRef }, func(d *api.Decl) { d.Kind = math.MaxInt },
		func(d *api.Decl) { d.Length = -2 }, func(d *api.Decl) { d.Length = 65536 }, func(d *api.Decl) { d.Offset = -2 }, func(d *api.Decl) { d.Offset = 65536 }, func(d *api.Decl) { d.Presence = 3 }, func(d *api.Decl) { d.Presence = 1 },
		func(d *api.Decl) { d.ID = 0 }, func(d *api.Decl) { d.Since = 1 }, func(d *api.Decl) { d.Value = "1" }, func(d *api.Decl) { d.Null = "\xff" }, func(d *api.Decl) { d.HasPresence, d.Presence, d.Value = true, api.Constant, " 1" },
	} {
		ds := decls(t, "<type name='uint8' primitiveType='none'/><type name='A' primitiveType='uint8'/>")
		if spoil(&ds[3]); n >= 0 {
			holdResolve(t, ds, nil, api.ErrDeclMade, 0)
		}
	}
}

// P8.2: which of two faults is told: the one that the chapter's list has first.
func TestFaultOrder(t *testing.T) {
	for _, c := range []struct {
		s   string
		err api.Errno
	}{
		// Names of all types, in order, ahead of all else.
		{"<type name='A' primitiveType='none'/>^<type name='int8' primitiveType='uint8'/>", api.ErrTypeName},
		{"<type name='A' primitiveType='none'/>^<type name='A' primitiveType='uint8'/>", api.ErrTypeTwice},
		{"<type name='A' primitiveType='uint8'/>^<type name='A' primitiveType='uint8'/><type name='char' primitiveType='uint8'/>", api.ErrTypeTwice},
		{"<type name='A' primitiveType='uint8'/>^<type name='char' primitiveType='uint8'/><type name='A' primitiveType='uint8'/>", api.ErrTypeName},
		{"^<type name='char' primitiveType='uint8'/><type name='char' primitiveType='uint8'/>", api.ErrTypeName},
		{"<composite name='A'><ref name='a' type='A'/></composite>^<composite name='A'/>", api.ErrTypeTwice},
		// Each declaration by itself, in their order.
		{"^<type name='A' primitiveType='none'/><type name='B' primitiveType='int8' length='0'/>", api.ErrTypeNone},
		{"^<type name='B' primitiveType='int8' length='0'/><type name='A' primitiveType='none'/>", api.ErrTypeLength},
		{"<composite name='C'><type name='a' primitiveType='int8'/>^<type name='a' primitiveType='none'/></composite>", api.ErrTypeTwice},
		{"<composite name='C'><type name='a' primitiveType='int8'/>^<type name='a' primitiveType='int8' length='0'/></composite>", api.ErrTypeTwice},
		{"<composite name='C'><type name='a' primitiveType='int8'/>^<ref name='a' type='none'/></composite>", api.ErrTypeTwice},
		{"<composite name='C'><type name='a' primitiveType='int8'/>^<enum name='a' encodingType='none'/></composite>", api.ErrTypeTwice},
		{"<composite name='C'><composite name='a'>^<type name='b' primitiveType='none'/></composite><type name='a' primitiveType='int8'/></composite>", api.ErrTypeNone},
		{"<composite name='C'><type name='a' primitiveType='int8'/>^<composite name='a'><type name='b' primitiveType='none'/></composite></composite>", api.ErrTypeTwice},
		{"^<type name='A' primitiveType='none' length='0' nullValue='x'/>", api.ErrTypeNone},
		{"^<type name='A' primitiveType='none' presence='constant'/>", api.ErrTypeNone},
		{"^<type name='A' primitiveType='int64' length='8192' nullValue='x'/>", api.ErrTypeLength},
		{"^<type name='A' primitiveType='int8' length='0' nullValue='x'/>", api.ErrTypeLength},
		{"<composite name='C'>^<type name='A' primitiveType='int8' length='0' presence='constant'/></composite>", api.ErrTypeLength},
		{"^<enum name='E' encodingType='none'><validValue name='a'>x</validValue></enum>", api.ErrTypeNone},
		{"^<enum name='E' encodingType='float'><validValue name='a'>x</validValue></enum>", api.ErrTypeKind},
		{"<enum name='E' encodingType='uint8'><validValue name='a'>1</validValue>^<validValue name='a'>1</validValue></enum>", api.ErrTypeTwice},
		{"<enum name='E' encodingType='uint8'><validValue name='a'>1</validValue>^<validValue name='a'>x</validValue></enum>", api.ErrTypeTwice},
		{"<enum name='E' encodingType='uint8'>^<validValue name='a'>x</validValue><validValue name='a'>x</validValue></enum>", api.ErrTypeEnum},
		{"^<enum name='E' encodingType='T'/><type name='T' primitiveType='none'/>", api.ErrTypeKind},
		{"^<type name='T' primitiveType='none'/><enum name='E' encodingType='T'/>", api.ErrTypeNone},
		{"<composite name='P'>^<ref name='c' type='T'/></composite><composite name='T'><type name='v' primitiveType='none' length='0'/></composite>", api.ErrTypeKind},
		{"<composite name='T'>^<type name='v' primitiveType='none' length='0'/></composite><composite name='P'><ref name='c' type='T'/></composite>", api.ErrTypeNone},
		// Then cycles.
		{"<composite name='C'><ref name='c' type='C'/></composite>^<type name='A' primitiveType='none'/>", api.ErrTypeNone},
		{"<composite name='C'><ref name='c' type='C'/>^<ref name='d' type='none'/></composite>", api.ErrTypeNone},
		{"<composite name='B'><type name='x' primitiveType='uint32'/><type name='y' primitiveType='uint8' offset='1'/></composite>^<composite name='C'><ref name='c' type='C'/></composite>", api.ErrTypeCycle},
		{deepRefs(18) + "^<composite name='C'><ref name='c' type='C'/></composite>", api.ErrTypeCycle},
		// Then what is too big, then what can't be laid.
		{"<composite name='B'><type name='x' primitiveType='uint32'/><type name='y' primitiveType='uint8' offset='1'/></composite>^" + deepRefs(17), api.ErrTypeBig},
		{"<composite name='B'><type name='x' primitiveType='uint32'/>^<type name='y' primitiveType='uint8' offset='1'/></composite>" + deepRefs(16), api.ErrTypeOffset},
	} {
		refused(t, c.s, c.err)
	}
}

// deepRefs is that many composites in one another by refs, each one declared ahead of the one that it holds.
func deepRefs(n int) string {
	s := ""
	for i := range n - 1 {
		s += fmt.Sprintf("<composite name='R%d'><ref name='a' type='R%d'/></composite>", i, i+1)
	}
	return s + fmt.Sprintf("<composite name='R%d'/>", n-1)
}

// P8.2: composites that hold themselves, by themselves and through others; the first in order is told, not one that only leads to such.
func TestCycles(t *testing.T) {
	c := func(name string, refs ...string) string {
		s := "<composite name='" + name + "'>"
		for i, r := range refs {
			s += fmt.Sprintf("<ref name='r%d' type='%s'/>", i, r)
		}
		return s + "</composite>"
	}
	for _, s := range []string{
		"^" + c("P", "P"),
		"^" + c("P", "uint8", "P", "P"),
		"^" + c("P", "Q") + c("Q", "P"),
		"^" + c("P", "Q") + c("Q", "R") + c("R", "P"),
		"^" + c("P", "Q") + c("Q", "R", "P") + c("R", "Q"),
		c("A", "P") + "^" + c("P", "P"),
		c("A", "P", "Q") + "^" + c("P", "Q") + c("Q", "P"),
		c("A", "Q") + "^" + c("P", "Q") + c("Q", "P"),
		c("A", "Q") + c("B", "A", "A") + "^" + c("P", "Q", "D") + c("D") + c("Q", "D", "P"),
		c("P", "Q") + "^" + c("Q", "R") + c("R", "Q"),
		c("P", "R") + "^" + c("Q", "R") + c("R", "Q"),
		c("P", "D") + c("D") + "^" + c("Q", "D", "Q"),
		// Between two rings.
		c("X", "C") + "^" + c("A", "B", "X") + c("B", "A") + c("C", "D") + c("D", "C"),
		c("X", "C") + "^" + c("D", "C") + c("C", "D") + c("A", "B", "X") + c("B", "A"),
		// A way from one ring into another that has been left.
		"^" + c("C", "D") + c("D", "C") + c("A", "C", "B") + c("B", "A"),
		c("E", "F", "G") + c("F", "H") + c("G", "F", "H") + c("H", "I") + "^" + c("I", "J") + c("J", "I", "I"),
		"<type name='T' primitiveType='uint8'/>^<composite name='P'><composite name='q'><composite name='r'><ref name='c' type='P'/></composite></composite></composite>",
		"^<composite name='P'><composite name='q'><ref name='c' type='R'/></composite></composite><composite name='R'><ref name='p' type='P'/></composite>",
		"^<composite name='P'><composite name='q'><ref name='c' type='R'/></composite></composite></types><types/><types><composite name='R'><composite name='P'><ref name='p' type='P'/></composite></composite>",
	} {
		refused(t, s, api.ErrTypeCycle)
	}
	for _, s := range []string{
		c("P", "Q", "Q") + c("Q", "R", "R") + c("R"),
		c("P", "Q", "R") + c("Q", "R") + c("R", "S") + c("S"),
		c("S") + c("R", "S", "S") + c("Q", "R", "S") + c("P", "R", "Q"),
		"<composite name='P'><composite name='P'><type name='P' primitiveType='uint8'/></composite><ref name='Q' type='Q'/></composite><composite name='Q'><type name='P' primitiveType='uint8'/></composite>",
	} {
		taken(t, s)
	}
}

// P8.2, P8.8: a long ring, and many composites that lead into one, are told at the right place, and soon.
func TestLongCycles(t *testing.T) {
	const n = 9000
	ring := func(from, to int) []api.Decl {
		ds := decls(t, "")
		for i := range n {
			next := i + 1
			if i == from {
				next = to
			}
			ds = append(ds, typed(api.DeclComposite, 3, "C"+strconv.Itoa(i), "", 1000+i), typed(api.DeclRef, 4, "r", "C"+strconv.Itoa(next), 0))
		}
		return append(ds, typed(api.DeclComposite, 3, "C"+strconv.Itoa(n), "", 1000+n))
	}
	for _, c := range []struct{ from, to, at int }{{n - 1, 0, 1000}, {n - 1, 4000, 5000}, {n - 1, n - 1, 1000 + n - 1}, {4000, 4000, 5000}, {n - 1, n - 2, 1000 + n - 2}} {
		if ts, e, at := types.Resolve(ring(c.from, c.to)); ts != nil || e != api.ErrTypeCycle || at != c.at {
			t.Errorf("a ring from %d to %d: %d, %d", c.from, c.to, e, at)
		}
	}
	if ts, e, at := types.Resolve(ring(-1, 0)); ts != nil || e != api.ErrTypeBig || at != 1000 {
		t.Errorf("no ring: %d, %d", e, at)
	}
}

// typed is a declaration of a Kind with what must be there.
func typed(kind api.DeclKind, depth int, name, typ string, at int) api.Decl {
	d := api.Decl{Depth: depth, Kind: kind, Name: name, Type: typ, ID: -1, Length: -1, Offset: -1, Block: -1, Deprecated: -1, At: at}
	if kind == api.DeclValid || kind == api.DeclChoice {
		d.Type, d.Value = "", typ
	}
	return d
}

// P8.2: composites in one another up to the limit and one beyond, by refs, as they stand, and both ways mixed.
func TestDepth(t *testing.T) {
	taken(t, deepRefs(16))
	refused(t, "^"+deepRefs(17), api.ErrTypeBig)
	refused(t, "^"+deepRefs(19), api.ErrTypeBig)
	shut := func(n int) string { return strings.Repeat("</composite>", n) }
	nested := strings.Repeat("<composite name='n'>", 12)
	taken(t, "<composite name='T'>"+nested+"<ref name='r' type='three'/>"+shut(13)+"<composite name='three'><composite name='x'><composite name='y'><type name='z' primitiveType='uint8'/></composite></composite></composite>")
	refused(t, "^<composite name='T'>"+nested+"<ref name='r' type='four'/>"+shut(13)+"<composite name='four'><composite name='x'><composite name='y'><composite name='z'/></composite></composite></composite>", api.ErrTypeBig)
	refused(t, "<composite name='A'><ref name='a' type='R2'/></composite>^"+deepRefs(17), api.ErrTypeBig)
	refused(t, "<composite name='A'><ref name='a' type='R2'/></composite>^<composite name='B'><ref name='c' type='uint8'/><ref name='a' type='R1'/><ref name='b' type='uint8'/></composite>"+deepRefs(17), api.ErrTypeBig)
	// Simple types, enums and sets aren't counted.
	taken(t, strings.Replace(deepRefs(16), "<composite name='R15'/>", "<composite name='R15'><type name='b' primitiveType='uint8'/><enum name='e' encodingType='uint8'/><set name='s' encodingType='uint8'/></composite>", 1))
}

// P8.2: nodes up to the limit and one beyond, what refs name put in; the type with which there are too many is told.
func TestNodes(t *testing.T) {
	comp := func(ds []api.Decl, name string, at int, refs ...string) []api.Decl {
		ds = append(ds, typed(api.DeclComposite, 3, name, "", at))
		for i, r := range refs {
			ds = append(ds, typed(api.DeclRef, 4, "r"+strconv.Itoa(i), r, at+1))
		}
		return ds
	}
	// Of one composite: Basic's 11, itself and the others.
	build := func(n int) []api.Decl { return comp(decls(t, ""), "C", 7, slices.Repeat([]string{"int8"}, n)...) }
	check := func(ds []api.Decl, e api.Errno, at, nodes int) {
		t.Helper()
		ts, err, a := types.Resolve(ds)
		if len(ts) != nodes || err != e || a != at {
			t.Errorf("%d declarations: %d nodes, %d, %d; want %d, %d, %d", len(ds), len(ts), err, a, nodes, e, at)
		}
		if n, _ := types.Check(ts); err == api.OK && n != api.OK {
			t.Errorf("P8.7: Check: %d", n)
		}
	}
	check(build(19988-9), api.OK, 0, 20000-9)
	// Many types of a hundred nodes, then simple ones up to the limit.
	many := func(simple int) []api.Decl {
		ds := comp(decls(t, ""), "C", 7, slices.Repeat([]string{"int8"}, 99)...)
		ds = comp(ds, "D", 8, slices.Repeat([]string{"C"}, 100)...) // 10001
		ds = comp(ds, "E", 9, slices.Repeat([]string{"C"}, 98)...)  // 9801
		for i := range simple {
			ds = append(ds, typed(api.DeclType, 3, "S"+strconv.Itoa(i), "int8", 100+i))
		}
		return ds
	}
	check(many(20000-11-100-10001-9801), api.OK, 0, 20000)
	check(many(20000-11-100-10001-9801+1), api.ErrTypeBig, 100+87, 0)
	check(many(20000-11-100-10001-9801+2), api.ErrTypeBig, 100+87, 0)
	check(comp(many(80), "Z", 55, "C"), api.ErrTypeBig, 55, 0)
	check(comp(many(80), "Z", 55, "int8", "int8", "int8", "int8", "int8", "int8"), api.OK, 0, 20000)
	check(comp(many(80), "Z", 55, "int8", "int8", "int8", "int8", "int8", "int8", "int8"), api.ErrTypeBig, 55, 0)
	// Values and bits are no nodes.
	ds := decls(t, "<enum name='E' encodingType='uint64'/>")
	for i := range 19900 {
		ds = append(ds, typed(api.DeclValid, 4, "v"+strconv.Itoa(i), strconv.Itoa(i), 0))
	}
	if ts, e, at := types.Resolve(ds); e != api.OK || at != 0 || len(ts) != 12 || len(ts[11].Values) != 19900 {
		t.Errorf("many values: %d nodes, %d, %d", len(ts), e, at)
	}
}

// P8.2, P8.8: refs in refs that would say more nodes than any number holds are refused at once.
func TestBeyondCounting(t *testing.T) {
	wide := func(levels, refs int) []api.Decl {
		ds := decls(t, "")
		for i := range levels {
			ds = append(ds, typed(api.DeclComposite, 3, "W"+strconv.Itoa(i), "", 10+i))
			for k := range refs {
				ds = append(ds, typed(api.DeclRef, 4, "r"+strconv.Itoa(k), "W"+strconv.Itoa(i+1), 0))
			}
		}
		return append(ds, typed(api.DeclType, 3, "W"+strconv.Itoa(levels), "uint8", 10+levels))
	}
	for _, c := range []struct{ levels, refs, at int }{{16, 1200, 10}, {15, 2, 10}, {13, 3, 10}, {5, 8, 10}} {
		if ts, e, at := types.Resolve(wide(c.levels, c.refs)); ts != nil || e != api.ErrTypeBig || at != c.at {
			t.Errorf("%v: %d, %d", c, e, at)
		}
	}
	// The deep ends are told ahead, if they are declared ahead and do fit.
	ds := wide(15, 2)
	flip := decls(t, "")
	for i := 15; i >= 0; i-- {
		k := slices.IndexFunc(ds, func(d api.Decl) bool { return d.Name == "W"+strconv.Itoa(i) })
		flip = append(flip, ds[k])
		if i < 15 {
			flip = append(flip, ds[k+1:k+3]...)
		}
	}
	// The types ahead of the one at which it is told have 2^2-1, 2^3-1 .. nodes, 1 the first.
	nodes, want := 11, -1
	for i := 15; i >= 0 && want < 0; i-- {
		if nodes += 1<<(16-i) - 1; nodes > 20000 {
			want = 10 + i
		}
	}
	if ts, e, at := types.Resolve(flip); ts != nil || e != api.ErrTypeBig || at != want {
		t.Errorf("%d, %d; want %d", e, at, want)
	}
}

// P8.2: composites that can't be laid: the member is told, and of several the one that is laid first.
func TestLaying(t *testing.T) {
	u8, u32 := "<type name='x' primitiveType='uint8'/>", "<type name='x' primitiveType='uint32'/>"
	bad := func(mark string) string { return u32 + mark + "<type name='y' primitiveType='uint8' offset='3'/>" }
	for _, s := range []string{
		"<composite name='A'>" + bad("^") + "</composite>",
		"<composite name='A'>" + u8 + "^<type name='y' primitiveType='uint8' offset='0'/></composite>",
		"<composite name='A'>^<type name='y' primitiveType='uint8' offset='65535'/></composite>",
		"<composite name='A'><type name='x' primitiveType='char' length='65535'/>^<type name='y' primitiveType='uint8'/></composite>",
		"<composite name='A'><type name='x' primitiveType='char' length='65535'/><type name='k' primitiveType='uint8' presence='constant'>1</type><composite name='q'/>^<type name='y' primitiveType='uint8'/></composite>",
		"<composite name='A'><type name='x' primitiveType='char' length='40000'/>^<ref name='y' type='B'/></composite><composite name='B'><type name='x' primitiveType='char' length='40000'/></composite>",
		"<composite name='A'>" + u8 + "^<composite name='q' offset='0'>" + u8 + "</composite></composite>",
		"<composite name='A'>" + u8 + "^<enum name='q' offset='0' encodingType='uint8'/></composite>",
		"<composite name='A'>" + u8 + "^<set name='q' offset='0' encodingType='uint8'/></composite>",
		"<composite name='A'>" + u8 + "^<ref name='q' offset='0' type='uint8'/></composite>",
		// What is inside a composite is laid ahead of it.
		"<composite name='A'>" + bad("") + "<composite name='q'>" + bad("^") + "</composite></composite>",
		"<composite name='A'><composite name='q'>" + bad("^") + "</composite>" + strings.ReplaceAll(bad(""), "'x'", "'z'") + "</composite>",
		"<composite name='A'>" + bad("") + "<ref name='r' type='B'/></composite><composite name='B'>" + bad("^") + "</composite>",
		"<composite name='A'>" + bad("") + "<ref name='r' type='B'/></composite><composite name='C'>" + bad("") + "</composite><composite name='B'>" + u8 + "<composite name='q'><ref name='c' type='D'/></composite></composite><composite name='D'>" + bad("^") + "</composite>",
		"<composite name='A'>" + bad("") + "<ref name='r' type='B'/><composite name='q'>" + bad("") + "</composite></composite><composite name='B'>" + bad("^") + "</composite>",
		"<composite name='A'>" + bad("") + "<composite name='q'>" + bad("^") + "</composite><ref name='r' type='B'/></composite><composite name='B'>" + bad("") + "</composite>",
		"<composite name='A'>" + u8 + "</composite><composite name='B'>" + bad("^") + "</composite><composite name='C'>" + bad("") + "</composite>",
		// In a composite the first member is told.
		"<composite name='A'>" + bad("^") + "<type name='z' primitiveType='uint8' offset='1'/></composite>",
		"<composite name='A'>" + u32 + "^<ref name='r' type='uint8' offset='1'/><type name='z' primitiveType='uint8' offset='1'/></composite>",
	} {
		refused(t, s, api.ErrTypeOffset)
	}
}

// P8.2: the place is the At of the declaration, whatever number that is.
func TestAnyPlace(t *testing.T) {
	for _, at := range []int{0, -1, 7, math.MaxInt, math.MinInt} {
		ds := decls(t, "<type name='A' primitiveType='none'/>")
		ds[2].At = at
		holdResolve(t, ds, nil, api.ErrTypeNone, at)
		ds = decls(t, "<composite name='A'><ref name='a' type='A'/></composite>")
		ds[2].At = at
		holdResolve(t, ds, nil, api.ErrTypeCycle, at)
	}
}

// spring makes declarations of types at random from few names, so that all sorts of faults, and of types without any, come by.
type spring struct {
	*rand.Rand
	ds   []api.Decl
	kind int // how often what is wrong is taken
}

func (s *spring) pick(all ...string) string { return all[s.Intn(len(all))] }

func (s *spring) odd() bool { return s.Intn(s.kind) == 0 }

func (s *spring) add(kind api.DeclKind, depth int, name, typ string) *api.Decl {
	s.ds = append(s.ds, typed(kind, depth, name, typ, 1000+len(s.ds)))
	return &s.ds[len(s.ds)-1]
}

func (s *spring) typeName() string { return "T" + strconv.Itoa(s.Intn(6)) }

func (s *spring) offset(d *api.Decl) {
	if s.Intn(3) == 0 {
		d.Offset = s.Intn(30)
	}
	if s.odd() {
		d.Offset = 65525 + s.Intn(11)
	}
}

func (s *spring) simple(depth int, name string, last bool) {
	p := prims[s.Intn(len(prims))].name
	if s.odd() {
		p = s.typeName()
	}
	d := s.add(api.DeclType, depth, name, p)
	s.offset(d)
	switch s.Intn(5) {
	case 0:
		d.Length = s.Intn(4)
	case 1:
		d.HasPresence, d.Presence = true, api.Optional
	case 2:
		d.HasPresence, d.Presence = true, api.Constant
		d.Length = s.Intn(5) - 1
		d.Value = s.pick("1", "2,3", "7", "A", "", "1,2,3", "9")
	}
	if d.Length == 0 && !(last && depth == 4 || s.odd()) {
		d.Length = 1
	}
	if s.odd() {
		d.Length = []int{8191, 8192, 16383, 16384, 32767, 32768, 65535, 0}[s.Intn(8)]
	}
	for _, text := range []*string{&d.Null, &d.Min, &d.Max} {
		if s.Intn(6) == 0 {
			*text = s.pick("1", "7", "0", "5", "9")
			if s.odd() {
				*text = s.pick("x", "-1", "300", "INF")
			}
		}
	}
}

func (s *spring) coded(kind api.DeclKind, depth int, name string) {
	typ := s.pick("uint8", "uint16", "uint32", "uint64")
	if s.Intn(3) == 0 {
		typ = s.typeName()
	}
	if s.odd() {
		typ = s.pick("char", "int8", "float", "double", "none")
	}
	s.offset(s.add(kind, depth, name, typ))
	for i := range s.Intn(4) {
		name, value := "v"+strconv.Itoa(i), strconv.Itoa(i+s.Intn(2)*5)
		if s.odd() {
			name, value = "v"+strconv.Itoa(s.Intn(3)), s.pick("8", "1", "x", "64", "256", "7")
		}
		d := s.add(kind+1, depth+1, name, value)
		d.Since = s.Intn(3)
	}
}

func (s *spring) composite(depth int, name string) {
	s.offset(s.add(api.DeclComposite, depth, name, ""))
	n := s.Intn(5)
	for i := range n {
		name := "m" + strconv.Itoa(i)
		if s.odd() {
			name = "m" + strconv.Itoa(s.Intn(3))
		}
		s.one(depth+1, name, i == n-1)
	}
}

func (s *spring) one(depth int, name string, last bool) {
	switch n := s.Intn(8); {
	case n < 2:
		s.simple(depth, name, last)
	case n == 2:
		s.coded(api.DeclEnum, depth, name)
	case n == 3:
		s.coded(api.DeclSet, depth, name)
	case n < 6 && depth > 3:
		typ := s.typeName()
		if s.Intn(3) == 0 {
			typ = s.pick("uint8", "int64", "float")
		}
		if s.odd() {
			typ = s.pick("m0", "none")
		}
		s.offset(s.add(api.DeclRef, depth, name, typ))
	case depth < 6:
		s.composite(depth, name)
	default:
		s.simple(depth, name, last)
	}
}

// schema makes one; each type's refs name later ones more often than not, so that few are in rings.
func (s *spring) schema() []api.Decl {
	s.ds = []api.Decl{typed(api.DeclSchema, 1, "p", "messageHeader", 5)}
	s.ds[0].ID = 1
	s.add(api.DeclTypes, 2, "", "")
	for i := range 2 + s.Intn(5) {
		name := "T" + strconv.Itoa(i)
		if s.odd() {
			name = s.pick("T0", "T1", "char", "uint64")
		}
		if s.Intn(9) == 0 {
			s.add(api.DeclTypes, 2, "", "")
		}
		from := len(s.ds)
		s.one(3, name, true)
		for k := from; k < len(s.ds); k++ {
			if d := &s.ds[k]; d.Kind == api.DeclRef && d.Type <= name && strings.HasPrefix(d.Type, "T") && s.Intn(4) > 0 {
				d.Type = "T" + strconv.Itoa(i+1)
			}
		}
	}
	return s.ds
}

// P8.2, P8.7: declarations at random, held against the second Resolve.
func TestResolveRandom(t *testing.T) {
	s := &spring{Rand: rand.New(rand.NewSource(8))}
	seen := map[api.Errno]int{}
	for n := range 30000 {
		s.kind = []int{40, 400, 4000}[n%3]
		ds := s.schema()
		want, err, at := secondResolve(ds)
		seen[err]++
		got, e, a := types.Resolve(ds)
		if e != err || a != at || !sameNodes(got, want) {
			t.Fatalf("Resolve(%v) = %v, %d, %d; want %v, %d, %d", ds, got, e, a, want, err, at)
		}
		if e == api.OK {
			if e, n := types.Check(got); e != api.OK {
				t.Fatalf("P8.7: Check(%v) = %d, %d", got, e, n)
			}
		}
	}
	for _, e := range []api.Errno{api.OK, api.ErrTypeName, api.ErrTypeTwice, api.ErrTypeNone, api.ErrTypeCycle, api.ErrTypeKind, api.ErrTypeValue, api.ErrTypeOffset, api.ErrTypeEnum, api.ErrTypeLength} {
		if seen[e] < 20 {
			t.Errorf("of the answer %d only %d came by", e, seen[e])
		}
	}
}
