package types_test

import (
	"fmt"
	"math"
	"slices"
	"strings"
	"testing"
	"unsafe"

	"stencil/api"
	"stencil/types"
)

// holdUses holds what is told of a place against the second versions.
func holdUses(t *testing.T, ts []api.TypeNode, i int) {
	t.Helper()
	want := secondLeaves(ts, i)
	if got := slices.Collect(types.Leaves(ts, i)); !slices.Equal(got, want) {
		t.Errorf("Leaves(%v, %d) = %v; want %v", ts, i, got, want)
	}
	nulls := secondNulls(ts, i)
	if got := types.Nulls(ts, i); !slices.Equal(got, nulls) {
		t.Errorf("Nulls(%v, %d) = %v; want %v", ts, i, got, nulls)
	}
	if got := types.Words(ts, i); got != len(nulls) {
		t.Errorf("Words(%v, %d) = %d; want %d", ts, i, got, len(nulls))
	}
	h, ok := types.HeadOf(ts, i)
	if want, is := secondHead(ts, i); h != want || ok != is {
		t.Errorf("HeadOf(%v, %d) = %v, %v; want %v, %v", ts, i, h, ok, want, is)
	}
	a, b, ok := types.DimOf(ts, i)
	if wantA, wantB, is := secondDim(ts, i); a != wantA || b != wantB || ok != is {
		t.Errorf("DimOf(%v, %d) = %v, %v, %v; want %v, %v, %v", ts, i, a, b, ok, wantA, wantB, is)
	}
	s, p, ok := types.DataOf(ts, i)
	if wantS, wantP, is := secondData(ts, i); s != wantS || p != wantP || ok != is {
		t.Errorf("DataOf(%v, %d) = %v, %v, %v; want %v, %v, %v", ts, i, s, p, ok, wantS, wantP, is)
	}
}

// holdNothing holds that nothing is told of a place.
func holdNothing(t *testing.T, what string, ts []api.TypeNode, i int) {
	t.Helper()
	for range types.Leaves(ts, i) {
		t.Errorf("%s: a leaf", what)
	}
	if types.Words(ts, i) != 0 || len(types.Nulls(ts, i)) != 0 {
		t.Errorf("%s: words", what)
	}
	if h, ok := types.HeadOf(ts, i); ok || h != (api.Head{}) {
		t.Errorf("%s: a header", what)
	}
	if a, b, ok := types.DimOf(ts, i); ok || a != b || a != (api.Spot{}) {
		t.Errorf("%s: a dimension", what)
	}
	if s, p, ok := types.DataOf(ts, i); ok || s != (api.Spot{}) || p != 0 {
		t.Errorf("%s: data", what)
	}
}

// P8.3: the least place of a type of a name, in any list.
func TestFind(t *testing.T) {
	ts := sample()
	for i, n := range ts {
		if want := secondFind(ts, n.Name); types.Find(ts, n.Name) != want || n.Depth == 1 && want != i {
			t.Errorf("Find(%q) = %d; want %d", n.Name, types.Find(ts, n.Name), want)
		}
	}
	for _, name := range []string{"", "x", "m", "q", "c", "C ", "Uint8", "varData", "\xff"} {
		if got := types.Find(ts, name); got != -1 {
			t.Errorf("Find(%q) = %d", name, got)
		}
	}
	odd := []api.TypeNode{{Name: "a"}, {Depth: 2, Name: "a"}, {Depth: -1, Name: "a"}, {Depth: 1, Kind: 7, Name: "a"}, {Depth: 1, Name: "a"}, {Depth: 1}, {Depth: 1, Name: "b\x00"}}
	for name, want := range map[string]int{"a": 3, "": 5, "b\x00": 6, "b": -1} {
		if got := types.Find(odd, name); got != want {
			t.Errorf("Find(odd, %q) = %d; want %d", name, got, want)
		}
	}
	if types.Find(nil, "") != -1 || types.Find(nil, "a") != -1 || types.Find([]api.TypeNode{}, "char") != -1 {
		t.Errorf("Find in no list")
	}
}

// P8.5: leaves, words and nulls of every node of the sample; the chapter's fourth example.
func TestLeaves(t *testing.T) {
	ts := sample()
	for i, want := range map[int][]int{
		0: {0}, 10: {10}, atS: {atS}, atK: nil, atE: {atE}, atF: {atF}, atC: {atCm, atCqx, atCqe, atCqs, atCz}, atCm: {atCm}, atCk: nil, atCq: {atCqx, atCqe, atCqs}, atCqs: {atCqs}, atCz: {atCz},
		atV: {atVlength}, atVlength: {atVlength}, atVdata: nil, atD: nil, atL: {atL},
	} {
		if got := slices.Collect(types.Leaves(ts, i)); !slices.Equal(got, want) {
			t.Errorf("Leaves of %d: %v; want %v", i, got, want)
		}
	}
	for i, want := range map[int][]uint64{
		0: {0}, 5: {255}, atS: {7, 7, 7}, atK: nil, atE: {255}, atF: {0}, atC: {word(-2147483648), 65535, 0, 0, math.MaxUint64}, atV: {65535}, atVdata: nil, atD: nil, atL: {0x7ff8000000000000},
	} {
		if got := types.Nulls(ts, i); !slices.Equal(got, want) || types.Words(ts, i) != len(want) {
			t.Errorf("Nulls of %d: %v, Words %d; want %v", i, got, types.Words(ts, i), want)
		}
	}
	for i := range ts {
		holdUses(t, ts, i)
	}
	ts = taken(t, dec)
	if got := slices.Collect(types.Leaves(ts, 11)); !slices.Equal(got, []int{12, 14}) || types.Words(ts, 11) != 2 || !slices.Equal(types.Nulls(ts, 11), []uint64{word(-2147483648), 255}) {
		t.Errorf("of Dec: %v, %d, %v", got, types.Words(ts, 11), types.Nulls(ts, 11))
	}
	// An enum's null is its type's, a set's is 0, whatever its type's is.
	ts = taken(t, "<composite name='C'><enum name='e' encodingType='T'/><set name='s' encodingType='T'/><ref name='t' type='T'/><ref name='u' type='U'/></composite><type name='T' primitiveType='uint8' nullValue='9'/><type name='U' primitiveType='char' length='2' nullValue='#1'/>")
	if got := types.Nulls(ts, 11); !slices.Equal(got, []uint64{9, 0, 9, 1, 1}) {
		t.Errorf("Nulls = %v", got)
	}
}

// P8.7: a field has as many words as a block has bytes, at most.
func TestManyWords(t *testing.T) {
	ts := taken(t, "<composite name='C'><type name='a' primitiveType='char' length='65000'/><type name='b' primitiveType='uint8' length='535'/></composite>")
	if types.Words(ts, 11) != 65535 || len(types.Nulls(ts, 11)) != 65535 {
		t.Errorf("Words = %d", types.Words(ts, 11))
	}
}

// P8.5, P8.6: nothing is told of places that are none, nor of any place of a list that isn't types.
func TestNoPlaces(t *testing.T) {
	header := headers()
	for what, ts := range map[string][]api.TypeNode{"the sample": sample(), "a header": header, "nothing": nil, "Basic's": types.Basic()} {
		for _, i := range []int{-1, len(ts), len(ts) + 1, math.MaxInt, math.MinInt} {
			holdNothing(t, fmt.Sprint(what, " at ", i), ts, i)
		}
	}
	for _, c := range faults() {
		ts := c.do(sample())
		for _, i := range []int{0, 5, atS, atC, atV, atD, len(ts) - 1} {
			holdNothing(t, fmt.Sprint(c.what, " at ", i), ts, i)
		}
	}
	for _, spoilt := range [][]api.TypeNode{header[1:], append(slices.Clone(header), api.TypeNode{}), slices.Delete(slices.Clone(header), 4, 5)} {
		for i := range spoilt {
			holdNothing(t, "a spoilt list", spoilt, i)
		}
	}
}

// member is one of a composite that is a simple type of a name.
func member(name, p string) string {
	return "<type name='" + name + "' primitiveType='" + p + "'/>"
}

const (
	block, template, schema, version = "blockLength", "templateId", "schemaId", "version"
)

// headers is types with a header, a dimension and data.
func headers() []api.TypeNode {
	ts := append(types.Basic(),
		composite(1, "messageHeader", 0, 8), simple(2, block, api.Uint16, 1, 0), simple(2, template, api.Uint16, 1, 2), simple(2, schema, api.Uint16, 1, 4), simple(2, version, api.Uint16, 1, 6),
		composite(1, "groupSizeEncoding", 0, 3), simple(2, block, api.Uint16, 1, 0), simple(2, "numInGroup", api.Uint8, 1, 2),
		composite(1, "varString", 0, 2), simple(2, "length", api.Uint16, 1, 0), simple(2, "varData", api.Char, 0, 2))
	return ts
}

// P8.6: headers, the chapter's eighth example among them.
func TestHeadOf(t *testing.T) {
	h, ok := types.HeadOf(headers(), 11)
	if want := (api.Head{Size: 8, Block: api.Spot{Prim: api.Uint16}, Template: api.Spot{Prim: api.Uint16, Offset: 2}, Schema: api.Spot{Prim: api.Uint16, Offset: 4}, Version: api.Spot{Prim: api.Uint16, Offset: 6}}); h != want || !ok {
		t.Errorf("HeadOf = %v, %v", h, ok)
	}
	// Any order, sizes, gaps, places; and as a member.
	ts := taken(t, "<composite name='o'><type name='pad' primitiveType='uint8'/><composite name='h'>"+member(version, "uint8")+"<type name='schemaId' primitiveType='uint32' offset='5' nullValue='3' minValue='7' maxValue='1'/>"+member(block, "uint32")+"<ref name='templateId' type='uint16' offset='20'/></composite></composite>")
	i := slices.IndexFunc(ts, func(n api.TypeNode) bool { return n.Name == "h" })
	h, ok = types.HeadOf(ts, i)
	if want := (api.Head{Size: 22, Block: api.Spot{Prim: api.Uint32, Offset: 9}, Template: api.Spot{Prim: api.Uint16, Offset: 20}, Schema: api.Spot{Prim: api.Uint32, Offset: 5}, Version: api.Spot{Prim: api.Uint8, Offset: 0}}); h != want || !ok {
		t.Errorf("HeadOf = %v, %v", h, ok)
	}
	all := []string{member(block, "uint16"), member(template, "uint16"), member(schema, "uint16"), member(version, "uint16")}
	none := func(inner string) {
		t.Helper()
		ts := taken(t, "<composite name='h'>"+inner+"</composite><type name='opt' primitiveType='uint16' presence='optional'/><composite name='c'>"+member("x", "uint16")+"</composite>")
		if h, ok := types.HeadOf(ts, 11); ok || h != (api.Head{}) {
			t.Errorf("HeadOf of %s = %v", inner, h)
		}
		holdUses(t, ts, 11)
	}
	none("")
	none(strings.Join(all, "") + member("fifth", "uint16"))
	none(strings.Join(all, "") + "<type name='k' primitiveType='uint8' presence='constant'>1</type>")
	none(strings.Join(all, "") + "<composite name='q'/>")
	none(strings.Join(all, "") + "<type name='v' primitiveType='uint8' length='0'/>")
	for i, name := range []string{block, template, schema, version} {
		rest := strings.Join(slices.Delete(slices.Clone(all), i, i+1), "")
		none(rest)
		for _, p := range []string{"char", "int8", "int16", "int32", "int64", "uint64", "float", "double"} {
			none(rest + member(name, p))
			none(member(name, p) + rest)
		}
		for _, odd := range []string{
			"<type name='%s' primitiveType='uint16' length='2'/>", "<type name='%s' primitiveType='uint8' length='0'/>", "<type name='%s' primitiveType='uint16' presence='optional'/>", "<type name='%s' primitiveType='uint16' presence='constant'>1</type>",
			"<enum name='%s' encodingType='uint16'/>", "<set name='%s' encodingType='uint16'/>", "<composite name='%s'/>", "<composite name='%s'><type name='x' primitiveType='uint16'/></composite>", "<ref name='%s' type='opt'/>", "<ref name='%s' type='c'/>",
		} {
			none(rest + fmt.Sprintf(odd, name))
		}
		none(rest + member(strings.ToUpper(name), "uint16"))
		none(rest + member(name+"_", "uint16"))
	}
	// The number of nodes alone makes no header.
	none(member(block, "uint16") + member(template, "uint16") + "<composite name='schemaId'>" + member(version, "uint16") + "</composite>")
	for i := range headers() {
		if _, ok := types.HeadOf(headers(), i); ok != (i == 11) {
			t.Errorf("HeadOf at %d: %v", i, ok)
		}
	}
}

// P8.6: dimensions.
func TestDimOf(t *testing.T) {
	a, b, ok := types.DimOf(headers(), 16)
	if a != (api.Spot{Prim: api.Uint16}) || b != (api.Spot{Prim: api.Uint8, Offset: 2}) || !ok {
		t.Errorf("DimOf = %v, %v, %v", a, b, ok)
	}
	ts := taken(t, "<composite name='d'><type name='numInGroup' primitiveType='uint8' offset='3'/><type name='blockLength' primitiveType='uint32'/></composite>")
	a, b, ok = types.DimOf(ts, 11)
	if a != (api.Spot{Prim: api.Uint32, Offset: 4}) || b != (api.Spot{Prim: api.Uint8, Offset: 3}) || !ok {
		t.Errorf("DimOf = %v, %v, %v", a, b, ok)
	}
	for _, inner := range []string{
		"", member(block, "uint16"), member("numInGroup", "uint16"), member(block, "uint16") + member("NumInGroup", "uint16"), member(block, "uint16") + member("numInGroup", "int16"), member(block, "uint64") + member("numInGroup", "uint8"),
		member(block, "uint16") + member("numInGroup", "uint16") + member("more", "uint8"), member(block, "uint16") + member("more", "uint8"),
		member(block, "uint16") + "<type name='numInGroup' primitiveType='uint16' presence='optional'/>", member(block, "uint16") + "<type name='numInGroup' primitiveType='uint16' length='2'/>",
		member(block, "uint16") + "<type name='numInGroup' primitiveType='uint8' length='0'/>", member(block, "uint16") + "<enum name='numInGroup' encodingType='uint8'/>", "<composite name='blockLength'>" + member("numInGroup", "uint16") + "</composite>",
		"<type name='blockLength' primitiveType='uint16' presence='constant'>1</type>" + member("numInGroup", "uint16"),
	} {
		ts := taken(t, "<composite name='d'>"+inner+"</composite>")
		if a, b, ok := types.DimOf(ts, 11); ok || a != b || a != (api.Spot{}) {
			t.Errorf("DimOf of %s: %v, %v", inner, a, b)
		}
		holdUses(t, ts, 11)
	}
	for i := range headers() {
		if _, _, ok := types.DimOf(headers(), i); ok != (i == 16) {
			t.Errorf("DimOf at %d: %v", i, ok)
		}
	}
}

// P8.6: data, the chapter's eighth example among them.
func TestDataOf(t *testing.T) {
	s, p, ok := types.DataOf(headers(), 19)
	if s != (api.Spot{Prim: api.Uint16}) || p != api.Char || !ok {
		t.Errorf("DataOf = %v, %v, %v", s, p, ok)
	}
	varData := func(p string) string { return "<type name='varData' primitiveType='" + p + "' length='0'/>" }
	for n, length := range []string{"uint8", "uint16", "uint32"} {
		for k, bytes := range []string{"char", "uint8"} {
			ts := taken(t, "<composite name='d'>"+member("length", length)+varData(bytes)+"</composite>")
			s, p, ok := types.DataOf(ts, 11)
			if s != (api.Spot{Prim: api.Uint8 + api.Prim(n)}) || p != []api.Prim{api.Char, api.Uint8}[k] || !ok {
				t.Errorf("DataOf of %s, %s = %v, %d, %v", length, bytes, s, p, ok)
			}
		}
	}
	ts := taken(t, "<composite name='d'><type name='length' primitiveType='uint16' nullValue='1' offset='0'/><type name='varData' primitiveType='uint8' length='0' presence='optional' offset='2'/></composite>")
	if s, p, ok := types.DataOf(ts, 11); s != (api.Spot{Prim: api.Uint16}) || p != api.Uint8 || !ok {
		t.Errorf("DataOf = %v, %v, %v", s, p, ok)
	}
	for _, inner := range []string{
		"", varData("char"), member("length", "uint16"), member("Length", "uint16") + varData("char"), member("length", "uint16") + "<type name='vardata' primitiveType='char' length='0'/>",
		"<type name='length' primitiveType='uint16' presence='optional'/>" + varData("char"), "<type name='length' primitiveType='uint16' length='2'/>" + varData("char"), "<type name='length' primitiveType='uint16' offset='1'/>" + varData("char"),
		"<type name='length' primitiveType='uint16' presence='constant'>1</type>" + varData("char"), member("length", "uint64") + varData("char"), member("length", "int16") + varData("char"), member("length", "char") + varData("char"), member("length", "float") + varData("char"),
		"<enum name='length' encodingType='uint16'/>" + varData("char"), "<set name='length' encodingType='uint16'/>" + varData("char"), "<composite name='length'/>" + varData("char"),
		member("length", "uint16") + varData("int8"), member("length", "uint16") + varData("uint16"), member("length", "uint16") + varData("double"),
		member("length", "uint16") + "<type name='varData' primitiveType='char' length='0' offset='3'/>", member("length", "uint16") + member("varData", "char"), member("length", "uint16") + "<composite name='varData'/>",
		member("varData", "uint8") + "<type name='length' primitiveType='uint8' length='0'/>", member("length", "uint16") + member("x", "uint8") + varData("char"), "<composite name='q'/>" + member("length", "uint16") + varData("char"),
		member("length", "uint16") + "<type name='k' primitiveType='uint8' presence='constant'>1</type>" + varData("char"), member("length", "uint16") + "<type name='varData' primitiveType='char' presence='constant'>1</type>",
	} {
		ts := taken(t, "<composite name='d'>"+inner+"</composite>")
		if s, p, ok := types.DataOf(ts, 11); ok || s != (api.Spot{}) || p != 0 {
			t.Errorf("DataOf of %s: %v, %v", inner, s, p)
		}
		holdUses(t, ts, 11)
	}
	for i := range headers() {
		if _, _, ok := types.DataOf(headers(), i); ok != (i == 19) {
			t.Errorf("DataOf at %d: %v", i, ok)
		}
	}
}

// P8.8: an iterator is stopped anywhere, ranged over again and inside itself, and doesn't see what is changed behind it.
func TestLeavesIterator(t *testing.T) {
	ts := sample()
	leaves := types.Leaves(ts, atC)
	want := []int{atCm, atCqx, atCqe, atCqs, atCz}
	for stop := range want {
		var got []int
		for k := range leaves {
			got = append(got, k)
			if len(got) > stop {
				break
			}
		}
		if !slices.Equal(got, want[:stop+1]) {
			t.Errorf("stopped: %v", got)
		}
	}
	calls := 0
	leaves(func(int) bool { calls++; return false })
	if calls != 1 {
		t.Errorf("called %d times behind a stop", calls)
	}
	var pairs [][2]int
	for a := range leaves {
		for b := range leaves {
			pairs = append(pairs, [2]int{a, b})
		}
	}
	if len(pairs) != 25 || pairs[7] != [2]int{atCqx, atCqe} {
		t.Errorf("inside itself: %v", pairs)
	}
	for i := range ts {
		ts[i] = api.TypeNode{}
	}
	if got := slices.Collect(leaves); !slices.Equal(got, want) {
		t.Errorf("behind a change: %v", got)
	}
	none := types.Leaves(ts, atC)
	copy(ts, sample())
	if got := slices.Collect(none); len(got) != 0 {
		t.Errorf("of what was no types then: %v", got)
	}
	got := []int{}
	for k := range types.Leaves(ts, atC) {
		got = append(got, k)
		ts[atC], ts[atCz].Kind = api.TypeNode{}, 9
	}
	if !slices.Equal(got, want) {
		t.Errorf("changed while it is ranged over: %v", got)
	}
}

// spread is a copy of nodes with room behind every list, filled with a mark.
func spread(ts []api.TypeNode) []api.TypeNode {
	wide := make([]api.TypeNode, len(ts)+3)
	for i := range wide {
		wide[i].Name, wide[i].Depth = "mark", 99
	}
	for i, n := range ts {
		if n.Const != nil {
			n.Const = append(append(make([]uint64, 0, len(n.Const)+3), n.Const...), 77, 77, 77)[:len(n.Const)]
		}
		if n.Values != nil {
			n.Values = append(append(make([]api.Named, 0, len(n.Values)+2), n.Values...), api.Named{Name: "mark"}, api.Named{Name: "mark"})[:len(n.Values)]
		}
		wide[i] = n
	}
	return wide[:len(ts)]
}

// P8.8: what is handed in stays, room behind it too.
func TestArgumentsStay(t *testing.T) {
	whole := func(ts []api.TypeNode) string {
		s := fmt.Sprintf("%v", ts[:cap(ts)])
		for _, n := range ts {
			s += fmt.Sprint(n.Const[:cap(n.Const)], n.Values[:cap(n.Values)])
		}
		return s
	}
	for _, list := range [][]api.TypeNode{sample(), headers(), sample()[:20], sample()[3:]} {
		ts := spread(list)
		before := whole(ts)
		types.Find(ts, "C")
		types.Check(ts)
		for i := -1; i <= len(ts); i++ {
			for range types.Leaves(ts, i) {
			}
			types.Words(ts, i)
			types.Nulls(ts, i)
			types.HeadOf(ts, i)
			types.DimOf(ts, i)
			types.DataOf(ts, i)
		}
		if whole(ts) != before {
			t.Errorf("the list is changed")
		}
	}
	for _, inner := range []string{dec, "<composite name='P'><ref name='a' type='Dec'/><ref name='b' type='Dec'/></composite>" + dec, "<composite name='P'><ref name='a' type='P'/></composite>", "<type name='A' primitiveType='none'/>", deepRefs(17), "<enum name='E' encodingType='uint8'><validValue name='a'>1</validValue></enum>"} {
		ds := decls(t, inner)
		wide := make([]api.Decl, len(ds), len(ds)+3)
		copy(wide, ds)
		for i := range 3 {
			wide[:cap(wide)][len(ds)+i].Name = "mark"
		}
		before := fmt.Sprint(wide[:cap(wide)])
		types.Resolve(wide)
		if fmt.Sprint(wide[:cap(wide)]) != before {
			t.Errorf("declarations are changed: %s", inner)
		}
	}
}

// scribble writes over all that lists of nodes have, room behind them too.
func scribble(ts []api.TypeNode) {
	for _, n := range ts {
		for i := range n.Const[:cap(n.Const)] {
			n.Const[:cap(n.Const)][i] = 12345
		}
		for i := range n.Values[:cap(n.Values)] {
			n.Values[:cap(n.Values)][i] = api.Named{Name: "scribble", Value: 12345, Since: 9}
		}
	}
	for i := range ts[:cap(ts)] {
		ts[:cap(ts)][i] = api.TypeNode{Name: "scribble"}
	}
}

// shared is types in which one constant, one enum and one set are put in several times.
const shared = "<composite name='A'><ref name='k' type='K'/><ref name='e' type='E'/><ref name='s' type='S'/><ref name='k2' type='K'/><ref name='e2' type='E'/><ref name='b' type='B'/></composite><composite name='B'><ref name='k' type='K'/><ref name='e' type='E'/><ref name='s' type='S'/></composite><type name='K' primitiveType='char' presence='constant'>abc</type><enum name='E' encodingType='uint8'><validValue name='v'>1</validValue><validValue name='w'>2</validValue></enum><set name='S' encodingType='uint8'><choice name='c'>1</choice></set>"

// P8.8: what is answered is new memory: no two lists of one answer, and no two answers, share any.
func TestAnswersAreNew(t *testing.T) {
	b, want := types.Basic(), secondBasic()
	scribble(b)
	if !sameNodes(types.Basic(), want) {
		t.Errorf("Basic's answers share memory")
	}
	ds := decls(t, shared)
	want, _, _ = secondResolve(ds)
	first, _, _ := types.Resolve(ds)
	scribble(first)
	if again, _, _ := types.Resolve(ds); !sameNodes(again, want) {
		t.Errorf("two answers of Resolve share memory")
	}
	got, _, _ := types.Resolve(ds)
	for i := range got {
		for k := range got[i].Const[:cap(got[i].Const)] {
			got[i].Const[:cap(got[i].Const)][k] = uint64(1000 * i)
		}
		for k := range got[i].Values[:cap(got[i].Values)] {
			got[i].Values[:cap(got[i].Values)][k].Since = 1000 * i
		}
	}
	for i, n := range got {
		for _, w := range n.Const {
			if w != uint64(1000*i) {
				t.Errorf("the elements of node %d are another's too", i)
			}
		}
		for _, v := range n.Values {
			if v.Since != 1000*i {
				t.Errorf("the values of node %d are another's too", i)
			}
		}
	}
	ts := sample()
	nulls := types.Nulls(ts, atS)
	for i := range nulls[:cap(nulls)] {
		nulls[:cap(nulls)][i] = 5
	}
	if !slices.Equal(types.Nulls(ts, atS), []uint64{7, 7, 7}) {
		t.Errorf("Nulls' answers share memory")
	}
}

// P8.8: an answer's texts are none of the declarations'.
func TestTextsAreNew(t *testing.T) {
	ds := decls(t, shared)
	for i := range ds {
		ds[i].Name = strings.Clone(ds[i].Name)
	}
	in := map[*byte]string{}
	for _, d := range ds {
		in[unsafe.StringData(d.Name)] = d.Name
	}
	ts, _, _ := types.Resolve(ds)
	hold := func(s string) {
		if _, is := in[unsafe.StringData(s)]; is {
			t.Errorf("the text %q is handed out", s)
		}
	}
	for _, n := range ts {
		hold(n.Name)
		for _, v := range n.Values {
			hold(v.Name)
		}
	}
}
