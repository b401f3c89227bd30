package decl_test

import (
	"math"
	"math/rand"
	"reflect"
	"runtime"
	"slices"
	"strconv"
	"strings"
	"testing"
	"unsafe"

	"stencil/api"
	"stencil/decl"
	"stencil/xmltree"
)

// samples has of each attribute a value that says something else than it says where it isn't there.
var samples = map[string]string{
	"name": "a", "package": "p.q", "primitiveType": "int8", "type": "T", "encodingType": "uint8", "headerType": "H", "dimensionType": "D",
	"id": "7", "version": "3", "byteOrder": "bigEndian", "length": "5", "presence": "optional", "offset": "8", "blockLength": "9",
	"sinceVersion": "2", "deprecated": "4", "nullValue": "n", "minValue": "l", "maxValue": "m", "valueRef": "A.B", "description": "d", "semanticType": "s",
}

func sampleText(kind api.DeclKind) string {
	if kind == api.DeclValid || kind == api.DeclChoice {
		return " 1\n"
	}
	return ""
}

// least is an element of a Kind with what must be there alone, most one with all that may be.
func least(kind api.DeclKind, depth int) api.Elem {
	e := most(kind, depth)
	e.Attrs = slices.DeleteFunc(e.Attrs, func(a api.Attr) bool {
		_, must := has(kind, a.Name)
		return !must
	})
	return e
}

func most(kind api.DeclKind, depth int) api.Elem {
	e := api.Elem{Depth: depth, Name: rows[kind].name, Text: sampleText(kind)}
	for _, name := range attrsOf(kind) {
		e.Attrs = append(e.Attrs, api.Attr{Name: name, Value: samples[name]})
	}
	return e
}

// chain is a tree of elements in one another, the last one of that Kind.
func chain(kind api.DeclKind) []api.Elem {
	var es []api.Elem
	if in, _, _ := strings.Cut(rows[kind].in, ", "); in != "" {
		es = chain(api.DeclKind(kindNamed(in)))
	}
	return append(es, least(kind, len(es)+1))
}

// placed gives each element and each attribute a place of its own.
func placed(es []api.Elem) []api.Elem {
	for n := range es {
		es[n].At = 1000 + 100*n
		for m := range es[n].Attrs {
			es[n].Attrs[m].At = es[n].At + 1 + m
		}
	}
	return es
}

func kinds() []api.DeclKind {
	var all []api.DeclKind
	for k := range rows {
		all = append(all, api.DeclKind(k))
	}
	return all
}

func attrNames() []string {
	var all []string
	for name := range meanings {
		all = append(all, name)
	}
	slices.Sort(all)
	return all
}

func holdRead(t *testing.T, es []api.Elem, want []api.Decl, err api.Errno, at int) {
	t.Helper()
	got, gotErr, gotAt := decl.Read(es)
	if gotErr != err || gotAt != at {
		t.Errorf("Read(%.300v): error %d at %d; want %d at %d", es[:min(len(es), 9)], gotErr, gotAt, err, at)
	}
	if err != api.OK && got != nil {
		t.Errorf("Read(%.300v): %d declarations beside an error", es[:min(len(es), 9)], len(got))
	}
	if err == api.OK && !slices.Equal(got, want) {
		t.Errorf("Read(%.300v) = %+v; want %+v", es[:min(len(es), 9)], got, want)
	}
}

// holdFault holds that a tree is refused at a place, and that the second reader says so too.
func holdFault(t *testing.T, es []api.Elem, err api.Errno, at int) {
	t.Helper()
	holdRead(t, es, nil, err, at)
	if _, gotErr, gotAt := secondRead(es); gotErr != err || gotAt != at {
		t.Errorf("the test's own reader of %.300v: error %d at %d; want %d at %d", es, gotErr, gotAt, err, at)
	}
}

// holdSecond holds that a tree is read as the second reader reads it, without a fault.
func holdSecond(t *testing.T, es []api.Elem) []api.Decl {
	t.Helper()
	want, err, _ := secondRead(es)
	if err != api.OK {
		t.Fatalf("the test's own reader of %.300v: error %d", es, err)
	}
	holdRead(t, es, want, api.OK, 0)
	return want
}

func parse(t *testing.T, s string) []api.Elem {
	t.Helper()
	es, err, at := xmltree.Parse(s)
	if err != api.OK {
		t.Fatalf("%q: error %d at %d", s, err, at)
	}
	return es
}

// P6.1: every name of the table, with the prefix and without it, and near misses.
func TestLocal(t *testing.T) {
	hold := func(name, want string, is bool) {
		if got, ok := decl.Local(name); got != want || ok != is {
			t.Errorf("Local(%q) = %q, %v; want %q, %v", name, got, ok, want, is)
		}
	}
	for _, row := range rows {
		n := row.name
		hold(n, n, true)
		hold("sbe:"+n, n, true)
		for _, miss := range []string{
			"sbe:sbe:" + n, "SBE:" + n, "Sbe:" + n, "sbe" + n, "sbe::" + n, ":" + n, "x:" + n, " " + n, n + " ", "sbe: " + n, n + ":", n + "sbe:", n + "\x00", "x" + n, n + "x",
			n[1:], n[:len(n)-1] + "\xff", strings.ToUpper(n), strings.ToUpper(n[:1]) + n[1:], n + n, "\n" + n, "sbe:" + n + "s1", "xsbe:" + n,
		} {
			hold(miss, "", false)
		}
	}
	for _, miss := range []string{"", ":", "sbe", "sbe:", "sbe:sbe:", "x:type", "Type", "sbe:sbe:type", "messageschema", "typ", "validvalue", "choices", "messages", "fields", "bool", "\xff", "\x00"} {
		hold(miss, "", false)
	}
}

// P6.2: the chapter's second example, and what of it is refused.
func TestReadTypes(t *testing.T) {
	const ahead = "<messageSchema package='p' id='1'><types>"
	const behind = "</types></messageSchema>"
	schema := api.Decl{Depth: 1, Kind: api.DeclSchema, Name: "p", Type: "messageHeader", ID: 1, Length: -1, Offset: -1, Block: -1, Deprecated: -1}
	types := api.Decl{Depth: 2, Kind: api.DeclTypes, ID: -1, Length: -1, Offset: -1, Block: -1, Deprecated: -1, At: 34}
	constant := api.Decl{Depth: 3, Kind: api.DeclType, Name: "a", Type: "int8", Presence: api.Constant, HasPresence: true, Value: "5", ID: -1, Length: -1, Offset: -1, Block: -1, Deprecated: -1, At: len(ahead)}
	es := parse(t, ahead+"<type name='a' primitiveType='int8' presence='constant'> 5 </type>"+behind)
	holdRead(t, es, []api.Decl{schema, types, constant}, api.OK, 0)
	for _, c := range []struct {
		s   string
		err api.Errno
		at  string
	}{
		{"<type name='a' primitiveType='int8'> 5 </type>", api.ErrDeclText, "<type"},
		{"<type name='a'/>", api.ErrDeclMiss, "<type"},
		{"<type primitiveType='a'/>", api.ErrDeclMiss, "<type"},
		{"<type name='a' primitiveType='int8' size='2'/>", api.ErrDeclAttr, "size"},
		{"<type name='1a' primitiveType='int8'/>", api.ErrDeclValue, "name"},
		{"<type name='a' primitiveType='int8' nullValue=''/>", api.ErrDeclValue, "nullValue"},
		{"<type primitiveType='int8' presence='Required' name=''/>", api.ErrDeclValue, "presence"},
		{"<field name='a' id='1' type='b'/>", api.ErrDeclName, "<field"},
		{"<messageSchema package='p' id='1'/>", api.ErrDeclName, "<messageSchema"},
		{"<thing/>", api.ErrDeclName, "<thing"},
	} {
		holdFault(t, parse(t, ahead+c.s+behind), c.err, len(ahead)+strings.Index(c.s, c.at))
	}
}

// P6.2: the chapter's third example.
func TestReadSchemas(t *testing.T) {
	schema := api.Decl{Depth: 1, Name: "p.q", Type: "messageHeader", ID: 1, Length: -1, Offset: -1, Block: -1, Deprecated: -1}
	holdRead(t, parse(t, `<messageSchema package="p.q" id="1"/>`), []api.Decl{schema}, api.OK, 0)
	holdRead(t, parse(t, `<sbe:messageSchema xmlns:sbe="x" package="p.q" id="1"/>`), []api.Decl{schema}, api.OK, 0)
	const deep = "<messageSchema package='p' id='1'><message name='m' id='2'>"
	shut := "</message></messageSchema>"
	ds := holdSecond(t, parse(t, deep+"<group name='g' id='3'/>"+shut))
	if ds[2].Type != "groupSizeEncoding" || ds[1].Type != "" {
		t.Errorf("%+v", ds)
	}
	for _, c := range []struct {
		s   string
		err api.Errno
		at  int
	}{
		{`<messageSchema package="p" id="65536"/>`, api.ErrDeclValue, 27},
		{`<types/>`, api.ErrDeclName, 0},
		{`<messageSchema package="p" id="1"><message name="a" id="1"/> x <message name="b" id="2"/></messageSchema>`, api.ErrDeclText, 0},
		{`<messageSchema package="p" id=" 7"/>`, api.ErrDeclValue, 27},
		{`<messageSchema package="a b" id="7"/>`, api.ErrDeclValue, 15},
		{`<messageSchema package="p" id="7" byteOrder="little"/>`, api.ErrDeclValue, 34},
		{deep + "<field name='a b' id='1' type='t'/>" + shut, api.ErrDeclValue, len(deep) + 7},
		{deep + "<field name='a' id='1' type='t' presence='Required'/>" + shut, api.ErrDeclValue, len(deep) + 32},
		{deep + "<field name='a' id='1' type='t' valueRef='A'/>" + shut, api.ErrDeclValue, len(deep) + 32},
		{deep + "<field name='a' id='1' type='t' valueRef='A.B.C'/>" + shut, api.ErrDeclValue, len(deep) + 32},
	} {
		holdFault(t, parse(t, c.s), c.err, c.at)
	}
}

// P6.2: the example of the whole is read, of each Kind something.
func TestReadWhole(t *testing.T) {
	ds := holdSecond(t, parse(t, `<sbe:messageSchema xmlns:sbe="http://x" package="shop" id="9" version="1"><types>
<composite name="str"><type name="length" primitiveType="uint8"/><type name="varData" primitiveType="char" length="0"/><ref name="r" type="x" offset="9"/></composite>
<enum name="Side" encodingType="uint8"><validValue name="Buy">1</validValue><validValue name="Sell" sinceVersion="1"> 2 </validValue></enum>
<set name="Bits" encodingType="uint8"><choice name="b" deprecated="0">0</choice></set></types>
<sbe:message name="Order" id="1" blockLength="7"><field name="tip" id="3" type="int16" presence="optional" sinceVersion="1"/>
<group name="legs" id="4"><sbe:field name="side" id="5" type="Side" presence="constant" valueRef="Side.Buy"/></group><data name="note" id="6" type="str" description="&lt;"/></sbe:message></sbe:messageSchema>`))
	var got []string
	for _, d := range ds {
		got = append(got, strconv.Itoa(d.Depth)+" "+strconv.Itoa(int(d.Kind))+" "+d.Name+" "+d.Type+" "+d.Value+" "+d.Note+" "+strconv.Itoa(d.Since)+" "+strconv.Itoa(d.Length)+" "+strconv.Itoa(d.Block)+" "+strconv.Itoa(d.Offset)+" "+strconv.Itoa(d.Deprecated))
	}
	want := []string{
		"1 0 shop messageHeader   0 -1 -1 -1 -1", "2 1     0 -1 -1 -1 -1", "3 3 str    0 -1 -1 -1 -1", "4 2 length uint8   0 -1 -1 -1 -1", "4 2 varData char   0 0 -1 -1 -1", "4 4 r x   0 -1 -1 9 -1",
		"3 5 Side uint8   0 -1 -1 -1 -1", "4 6 Buy  1  0 -1 -1 -1 -1", "4 6 Sell  2  1 -1 -1 -1 -1", "3 7 Bits uint8   0 -1 -1 -1 -1", "4 8 b  0  0 -1 -1 -1 0",
		"2 9 Order    0 -1 7 -1 -1", "3 10 tip int16   1 -1 -1 -1 -1", "3 11 legs groupSizeEncoding   0 -1 -1 -1 -1", "4 10 side Side Side.Buy  0 -1 -1 -1 -1", "3 12 note str  < 0 -1 -1 -1 -1",
	}
	if !slices.Equal(got, want) {
		t.Errorf("%q; want %q", got, want)
	}
}

// P6.2: a list that is no tree is refused at 0, whatever else is wrong with it.
func TestReadNoTree(t *testing.T) {
	root := placed([]api.Elem{least(api.DeclSchema, 1)})[0]
	types := api.Elem{Depth: 2, Name: "types", At: 5}
	changed := func(change func(e *api.Elem)) []api.Elem {
		e := api.Elem{Depth: 3, Name: "composite", Attrs: []api.Attr{{Name: "name", Value: "a", At: 8}}, At: 7}
		change(&e)
		return []api.Elem{root, types, e}
	}
	long := []api.Elem{root}
	for len(long) <= api.MaxElems {
		long = append(long, types)
	}
	for n, es := range [][]api.Elem{
		nil, {}, {types}, {root, root}, {{Depth: 1, Name: "no name", At: 3}}, {{Depth: 1, Name: "thing", Text: "\x00", At: 3}},
		changed(func(e *api.Elem) { e.Depth = 4 }),
		changed(func(e *api.Elem) { e.Depth = 1 }),
		changed(func(e *api.Elem) { e.Depth = 0 }),
		changed(func(e *api.Elem) { e.Depth = math.MinInt }),
		changed(func(e *api.Elem) { e.Depth = math.MaxInt }),
		changed(func(e *api.Elem) { e.Name = "" }),
		changed(func(e *api.Elem) { e.Text = "\xff" }),
		changed(func(e *api.Elem) { e.Attrs[0].Value = "\x01" }),
		changed(func(e *api.Elem) { e.Attrs[0].Name = "" }),
		changed(func(e *api.Elem) { e.Attrs = append(e.Attrs, e.Attrs[0]) }),
		changed(func(e *api.Elem) {
			for n := range api.MaxAttrs {
				e.Attrs = append(e.Attrs, api.Attr{Name: "xmlns:" + strconv.Itoa(n)})
			}
		}),
		long,
	} {
		if ds, err, at := decl.Read(es); ds != nil || err != api.ErrDeclMade || at != 0 {
			t.Errorf("list %d: %d declarations, error %d at %d", n, len(ds), err, at)
		}
	}
	holdSecond(t, changed(func(e *api.Elem) {}))
	holdRead(t, append(changed(func(e *api.Elem) { e.Text = "x" }), api.Elem{}), nil, api.ErrDeclMade, 0)
}

// P6.2: each element in each other one, and as the root.
func TestReadPlaces(t *testing.T) {
	stand := 0
	for _, kind := range kinds() {
		alone := placed([]api.Elem{least(kind, 1)})
		if kind == api.DeclSchema {
			holdSecond(t, alone)
		} else {
			holdFault(t, alone, api.ErrDeclName, 1000)
		}
		for _, holder := range kinds() {
			es := chain(holder)
			es = placed(append(es, least(kind, len(es)+1)))
			last := len(es) - 1
			if !mayStand(kind, rows[holder].name) {
				holdFault(t, es, api.ErrDeclName, es[last].At)
				es[last].Name = "sbe:" + es[last].Name
				holdFault(t, es, api.ErrDeclName, es[last].At)
				continue
			}
			stand++
			ds := holdSecond(t, es)
			es[last].Name = "sbe:" + es[last].Name
			es[last-1].Name = "sbe:" + es[last-1].Name
			if again := holdSecond(t, es); !slices.Equal(again, ds) {
				t.Errorf("with the prefix %v; want %v", again, ds)
			}
		}
	}
	if stand != 19 {
		t.Errorf("%d pairs stand", stand)
	}
	for _, name := range []string{"thing", "sbe:thing", "x:type", "Type", "sbe:sbe:type", "sbe:", ":"} {
		for _, holder := range kinds() {
			es := chain(holder)
			es = placed(append(es, api.Elem{Depth: len(es) + 1, Name: name}))
			holdFault(t, es, api.ErrDeclName, es[len(es)-1].At)
		}
	}
}

// P6.2: what holds an element is the last one ahead that is one less deep, not the one right ahead.
func TestReadHolders(t *testing.T) {
	at := func(kind api.DeclKind, depth int) api.Elem { return least(kind, depth) }
	root, types, composite := at(api.DeclSchema, 1), at(api.DeclTypes, 2), at(api.DeclComposite, 3)
	for _, es := range [][]api.Elem{
		{root, types, composite, at(api.DeclType, 4), at(api.DeclRef, 4), at(api.DeclType, 3), at(api.DeclEnum, 3), at(api.DeclValid, 4), types, at(api.DeclSet, 3), at(api.DeclChoice, 4), at(api.DeclChoice, 4), composite},
		{root, types, composite, at(api.DeclEnum, 4), at(api.DeclValid, 5), at(api.DeclRef, 4), at(api.DeclSet, 4), at(api.DeclChoice, 5), at(api.DeclComposite, 4), at(api.DeclRef, 5), at(api.DeclRef, 4)},
		{root, at(api.DeclMessage, 2), at(api.DeclGroup, 3), at(api.DeclGroup, 4), at(api.DeclField, 5), at(api.DeclData, 4), at(api.DeclField, 3), types, at(api.DeclMessage, 2), at(api.DeclData, 3)},
		{root, types, types, at(api.DeclMessage, 2), types},
	} {
		holdSecond(t, placed(es))
	}
	for _, es := range [][]api.Elem{
		{root, types, composite, at(api.DeclType, 4), at(api.DeclRef, 3)},
		{root, types, at(api.DeclEnum, 3), at(api.DeclSet, 3), at(api.DeclValid, 4)},
		{root, types, at(api.DeclMessage, 2), at(api.DeclType, 3)},
		{root, at(api.DeclMessage, 2), at(api.DeclGroup, 3), types, at(api.DeclGroup, 3)},
		{root, at(api.DeclMessage, 2), at(api.DeclGroup, 3), at(api.DeclField, 4), at(api.DeclField, 2)},
	} {
		placed(es)
		holdFault(t, es, api.ErrDeclName, es[len(es)-1].At)
	}
}

// P6.2: each attribute at each element: those that it has say their field alone, all others are refused.
func TestReadAttributes(t *testing.T) {
	others := []string{"size", "Name", "names", "sbe:name", "sbe:id", "xmln", "Xmlns", "xmlnsx", "xsi", "xs:i", "Xsi:a", "x:xsi:a", "semanticversion", "_"}
	for _, kind := range kinds() {
		without := holdSecond(t, placed(chain(kind)))
		for _, name := range append(append(attrNames(), "semanticVersion", "characterEncoding"), others...) {
			es := chain(kind)
			last := &es[len(es)-1]
			last.Attrs = slices.DeleteFunc(last.Attrs, func(a api.Attr) bool { return a.Name == name })
			last.Attrs = append(last.Attrs, api.Attr{Name: name, Value: samples[name]})
			placed(es)
			is, must := has(kind, name)
			switch {
			case passed(kind, name):
				holdRead(t, es, without, api.OK, 0)
			case is:
				want := slices.Clone(without)
				if d := &want[len(want)-1]; !set(d, name, samples[name]) || !must && *d == without[len(want)-1] {
					t.Fatalf("%s says nothing", name)
				}
				holdRead(t, es, want, api.OK, 0)
			default:
				holdFault(t, es, api.ErrDeclAttr, last.Attrs[len(last.Attrs)-1].At)
			}
		}
	}
}

// P6.2: each element with all its attributes, in every order of two of them, by literals.
func TestReadAll(t *testing.T) {
	d := func(kind api.DeclKind, name, typ string) api.Decl {
		return api.Decl{Kind: kind, Name: name, Type: typ, ID: -1, Length: -1, Offset: -1, Block: -1, Deprecated: -1, Note: "d"}
	}
	want := make([]api.Decl, len(rows))
	for kind, typ := range []string{"H", "", "int8", "", "T", "uint8", "", "uint8", "", "", "T", "D", "T"} {
		want[kind] = d(api.DeclKind(kind), "a", typ)
	}
	want[api.DeclSchema].Name, want[api.DeclSchema].Version, want[api.DeclSchema].Order = "p.q", 3, api.Big
	want[api.DeclTypes].Name, want[api.DeclTypes].Note = "", ""
	typ, field := &want[api.DeclType], &want[api.DeclField]
	typ.Length, typ.Presence, typ.HasPresence, typ.Null, typ.Min, typ.Max = 5, api.Optional, true, "n", "l", "m"
	field.Presence, field.HasPresence, field.Value = api.Optional, true, "A.B"
	for _, k := range []api.DeclKind{api.DeclSchema, api.DeclMessage, api.DeclField, api.DeclGroup, api.DeclData} {
		want[k].ID = 7
	}
	for _, k := range []api.DeclKind{api.DeclType, api.DeclComposite, api.DeclRef, api.DeclEnum, api.DeclSet, api.DeclField} {
		want[k].Offset = 8
	}
	for _, k := range []api.DeclKind{api.DeclMessage, api.DeclGroup} {
		want[k].Block = 9
	}
	for _, k := range []api.DeclKind{api.DeclValid, api.DeclChoice, api.DeclMessage, api.DeclField, api.DeclGroup, api.DeclData} {
		want[k].Since, want[k].Deprecated = 2, 4
	}
	for _, k := range []api.DeclKind{api.DeclValid, api.DeclChoice} {
		want[k].Value = "1"
	}
	for k := range want {
		if k != int(api.DeclSchema) && k != int(api.DeclTypes) && k != int(api.DeclValid) && k != int(api.DeclChoice) {
			want[k].Meaning = "s"
		}
	}
	for _, kind := range kinds() {
		es := chain(kind)
		last := len(es) - 1
		es[last] = most(kind, last+1)
		for i := range es[last].Attrs {
			for j := range i + 1 {
				as := es[last].Attrs
				as[i], as[j] = as[j], as[i]
				placed(es)
				w := want[kind]
				w.Depth, w.At = last+1, es[last].At
				if ds, err, at := decl.Read(es); err != api.OK || at != 0 || len(ds) != last+1 || ds[last] != w {
					t.Errorf("%v: error %d at %d, %+v; want %+v", es[last], err, at, ds, w)
				}
			}
		}
	}
}

func zeros(n int, s string) string { return strings.Repeat("0", n) + s }

// P6.2: each attribute's values at their bounds and beyond, at each element that has it.
func TestReadValues(t *testing.T) {
	name64, name65 := strings.Repeat("a", 64), strings.Repeat("a", 65)
	long := func(n int) string { return strings.Repeat(name64+".", 3) + strings.Repeat("b", n-3*65) }
	symbols := []string{"a", "_", "Z9_", "A", "z", "_1", "char", "sbe", name64}
	noSymbols := []string{"", " ", "a ", " a", "a b", "1", "1a", "a-b", "a.b", "a:b", "sbe:a", ".", "é", "a\n", "\ta", "-", "A.B", name65}
	words := []string{"0", "1", "7", "65534", "0000", zeros(300, "65534")}
	noNumbers := []string{"", " ", " 7", "7 ", "-1", "-0", "+1", "0x1", "1.0", "1e3", "a", "1,2", "\n1", "65536", "99999", "18446744073709551616", "4294967296", zeros(9, "65536"), strings.Repeat("9", 400), "٣"}
	any := []string{"x", " ", "\t\r\n", "<&>\"'", "é€\U0001f600", "0", strings.Repeat("y", 5000)}
	good, bad := map[string][]string{
		"symbol": symbols, "any": append(any, ""), "filled": any,
		"dotted": {"a", "p.q", "_._", "a.b.c.d.e", name64, name64 + "." + name64, long(255), long(196), long(254), strings.Repeat("a.", 127) + "a"},
		"ref":    {"A.B", "_._", "a1.b2", name64 + "." + name64},
		"65534":  words, "65535": append(words, "65535", zeros(300, "65535")),
		"littleEndian|bigEndian": {"littleEndian", "bigEndian"}, "required|optional|constant": {"required", "optional", "constant"},
	}, map[string][]string{
		"symbol": noSymbols, "any": nil, "filled": {""},
		"dotted": {"", ".", "a.", ".a", "a..b", "a. b", "a b", "1", "a.1", "a-b", "a:b", " a", "a ", name65, "a." + name65, long(195), strings.Repeat("a.", 128) + "a", strings.Repeat("a.", 127) + "ab", long(256)},
		"ref":    {"", ".", "A", "A.", ".A", "A.B.C", "A..B", "A .B", " A.B", "A.B ", "A:B", "1.A", "A.1", name65 + ".A", "A." + name65},
		"65534":  append(noNumbers, "65535", zeros(300, "65535")), "65535": noNumbers,
		"littleEndian|bigEndian":     {"", "little", "big", "LittleEndian", "littleendian", "littleEndian ", " bigEndian", "bigEndian|", "0", "1"},
		"required|optional|constant": {"", "Required", "optional ", " constant", "const", "0", "1", "2", "optionalconstant"},
	}
	for _, kind := range kinds() {
		for _, name := range attrsOf(kind) {
			hold := func(value string, is bool) {
				es := chain(kind)
				last := len(es) - 1
				as := slices.DeleteFunc(es[last].Attrs, func(a api.Attr) bool { return a.Name == name })
				place := len(as) / 2
				es[last].Attrs = slices.Insert(as, place, api.Attr{Name: name, Value: value})
				placed(es)
				if !is {
					holdFault(t, es, api.ErrDeclValue, es[last].Attrs[place].At)
					return
				}
				ds := holdSecond(t, es)
				got := reflect.ValueOf(ds[last]).FieldByName(meanings[name].field)
				if got.Kind() == reflect.String && got.String() != value || got.CanInt() && got.Int() < 0 {
					t.Errorf("%s=%q says %v", name, value, got)
				}
			}
			values := meanings[name].values
			if len(good[values]) == 0 {
				t.Fatalf("%s has no values", name)
			}
			for _, value := range good[values] {
				hold(value, true)
			}
			for _, value := range bad[values] {
				hold(value, false)
			}
		}
	}
}

// P6.2: what an attribute says where it isn't there it says where it is written so too; presence alone tells that it is written.
func TestReadUsual(t *testing.T) {
	for _, c := range []struct {
		kind  api.DeclKind
		name  string
		value string
	}{
		{api.DeclSchema, "headerType", "messageHeader"}, {api.DeclSchema, "version", "0"}, {api.DeclSchema, "byteOrder", "littleEndian"}, {api.DeclSchema, "description", ""},
		{api.DeclGroup, "dimensionType", "groupSizeEncoding"}, {api.DeclField, "sinceVersion", "00"}, {api.DeclType, "semanticType", ""},
	} {
		es := placed(chain(c.kind))
		want := holdSecond(t, es)
		last := len(es) - 1
		es[last].Attrs = append(es[last].Attrs, api.Attr{Name: c.name, Value: c.value})
		holdRead(t, es, want, api.OK, 0)
	}
	for _, kind := range []api.DeclKind{api.DeclType, api.DeclField} {
		for n, word := range []string{"required", "optional", "constant"} {
			es := chain(kind)
			last := len(es) - 1
			ds, _, _ := decl.Read(es)
			if ds[last].HasPresence || ds[last].Presence != api.Required {
				t.Errorf("%+v", ds[last])
			}
			es[last].Attrs = append(es[last].Attrs, api.Attr{Name: "presence", Value: word})
			ds, _, _ = decl.Read(es)
			if !ds[last].HasPresence || ds[last].Presence != api.Presence(n) {
				t.Errorf("%q: %+v", word, ds[last])
			}
		}
	}
}

// P6.2: what is passed over may say anything, and stand anywhere among the others; it stands for none that must be there.
func TestReadPassedOver(t *testing.T) {
	for _, kind := range kinds() {
		names := []string{"xmlns", "xmlns:", "xmlns:sbe", "xmlns:name", "xsi:", "xsi:schemaLocation", "xsi:id", "xmlns:xsi:a"}
		if kind == api.DeclSchema {
			names = append(names, "semanticVersion")
		}
		if kind == api.DeclType {
			names = append(names, "characterEncoding")
		}
		want := holdSecond(t, placed(chain(kind)))
		for _, name := range names {
			for _, value := range []string{"", "x", " 1 ", "\u20ac", "<&>"} {
				last := len(want) - 1
				for at := range len(chain(kind)[last].Attrs) + 1 {
					es := chain(kind)
					es[last].Attrs = slices.Insert(es[last].Attrs, at, api.Attr{Name: name, Value: value})
					holdRead(t, placed(es), want, api.OK, 0)
				}
			}
		}
		es := chain(kind)
		last := len(es) - 1
		for n := range api.MaxAttrs - len(es[last].Attrs) {
			es[last].Attrs = append(es[last].Attrs, api.Attr{Name: "xsi:" + strconv.Itoa(n), Value: "1"})
		}
		holdRead(t, placed(es), want, api.OK, 0)
		if kind != api.DeclTypes {
			es[last].Attrs[0].Name = "xsi:name"
			holdFault(t, es, api.ErrDeclMiss, es[last].At)
		}
	}
}

// P6.2: each attribute that must be there, left out by itself, and all of them; the others needn't be.
func TestReadMissing(t *testing.T) {
	for _, kind := range kinds() {
		for _, whole := range []api.Elem{least(kind, len(chain(kind))), most(kind, len(chain(kind)))} {
			for n, a := range whole.Attrs {
				es := chain(kind)
				last := len(es) - 1
				es[last] = whole
				es[last].Attrs = slices.Delete(slices.Clone(whole.Attrs), n, n+1)
				placed(es)
				if _, must := has(kind, a.Name); must {
					holdFault(t, es, api.ErrDeclMiss, es[last].At)
				} else {
					holdSecond(t, es)
				}
			}
		}
		if kind != api.DeclTypes {
			es := chain(kind)
			es[len(es)-1].Attrs = nil
			holdFault(t, placed(es), api.ErrDeclMiss, es[len(es)-1].At)
		}
	}
}

// P6.2: texts, blank and not, at each Kind; of a type with each presence and with none.
func TestReadTexts(t *testing.T) {
	blank := []string{"", " ", "\t\r\n ", strings.Repeat("\n", 3000)}
	filled := map[string]string{"x": "x", " 5 ": "5", "\r\n\ta b\n": "a b", "\u00a0": "\u00a0", " \u00a0 ": "\u00a0", "<!-- -->": "<!-- -->", "\u2028": "\u2028", "-": "-", "a\n\nb": "a\n\nb"}
	for _, kind := range kinds() {
		presences := []string{""}
		if is, _ := has(kind, "presence"); is {
			presences = append(presences, "required", "optional", "constant")
		}
		for _, presence := range presences {
			es := chain(kind)
			last := len(es) - 1
			if presence != "" {
				es[last].Attrs = append(es[last].Attrs, api.Attr{Name: "presence", Value: presence})
			}
			placed(es)
			hold := func(text, value string, is bool) {
				es[last].Text = text
				if !is {
					holdFault(t, es, api.ErrDeclText, es[last].At)
				} else if ds := holdSecond(t, es); ds[last].Value != value {
					t.Errorf("%v says %q; want %q", es[last], ds[last].Value, value)
				}
			}
			must := kind == api.DeclValid || kind == api.DeclChoice
			for _, text := range blank {
				hold(text, "", !must)
			}
			for text, value := range filled {
				hold(text, value, must || kind == api.DeclType && presence == "constant")
			}
		}
	}
	es := chain(api.DeclField)
	es[len(es)-1].Attrs = append(es[len(es)-1].Attrs, api.Attr{Name: "valueRef", Value: "A.B"})
	es[len(es)-1].Text = " \n"
	if ds := holdSecond(t, es); ds[len(es)-1].Value != "A.B" {
		t.Errorf("%+v", ds[len(es)-1])
	}
}

// P6.2: of all sets of faults that one element can have, and both orders of its attributes, the first of the chapter's order is told; an element ahead comes first, one behind isn't asked.
func TestReadFaultOrder(t *testing.T) {
	type fault struct {
		change func(e *api.Elem)
		err    api.Errno
	}
	faults := []fault{
		{func(e *api.Elem) { e.Name = "thing" }, api.ErrDeclName},
		{func(e *api.Elem) { e.Name = "message" }, api.ErrDeclName},
		{func(e *api.Elem) { e.Attrs = append(e.Attrs, api.Attr{Name: "size"}) }, api.ErrDeclAttr},
		{func(e *api.Elem) { e.Attrs = append(e.Attrs, api.Attr{Name: "length", Value: "x"}) }, api.ErrDeclValue},
		{func(e *api.Elem) { e.Attrs = append(e.Attrs, api.Attr{Name: "primitiveType", Value: "int8"}) }, api.OK},
		{func(e *api.Elem) { e.Text = "x" }, api.ErrDeclText},
	}
	for bits := range 1 << len(faults) {
		for _, turned := range []bool{false, true} {
			es := []api.Elem{least(api.DeclSchema, 1), least(api.DeclTypes, 2), {Depth: 3, Name: "type", Attrs: []api.Attr{{Name: "name", Value: "a"}}}, {Depth: 3, Name: "wrong"}}
			e := &es[2]
			for n, f := range faults {
				if bits&(1<<n) != 0 {
					f.change(e)
				}
			}
			if turned {
				slices.Reverse(e.Attrs)
			}
			placed(es)
			err, at := api.ErrDeclName, es[3].At
			first := func(e api.Errno, place int) {
				if at == es[3].At {
					err, at = e, place
				}
			}
			if bits&3 != 0 {
				first(api.ErrDeclName, e.At)
			}
			for _, a := range e.Attrs {
				switch a.Name {
				case "size":
					first(api.ErrDeclAttr, a.At)
				case "length":
					first(api.ErrDeclValue, a.At)
				}
			}
			if bits&16 == 0 {
				first(api.ErrDeclMiss, e.At)
			}
			if bits&32 != 0 {
				first(api.ErrDeclText, e.At)
			}
			holdFault(t, es, err, at)
			if bits == 16 {
				holdSecond(t, es[:3])
			}
			es[1].Text = "x"
			holdFault(t, es, api.ErrDeclText, es[1].At)
			es[0].Attrs[1].Value = "-1"
			holdFault(t, es, api.ErrDeclValue, es[0].Attrs[1].At)
		}
	}
}

// P6.2: what is at an element or attribute as its place is told as it is.
func TestReadAnyPlace(t *testing.T) {
	for _, at := range []int{math.MinInt, -1, 0, 5, math.MaxInt} {
		es := chain(api.DeclType)
		es[2].At = at
		if ds, err, _ := decl.Read(es); err != api.OK || ds[2].At != at || ds[1].At != 0 {
			t.Errorf("%+v, error %d", ds, err)
		}
		es[2].Text = "x"
		holdFault(t, es, api.ErrDeclText, at)
		es[2].Attrs = []api.Attr{{Name: "size", At: at}}
		es[2].At = 77
		holdFault(t, es, api.ErrDeclAttr, at)
		es[2].Attrs = []api.Attr{{Name: "name", At: at}}
		holdFault(t, es, api.ErrDeclValue, at)
	}
}

func holdWrite(t *testing.T, ds []api.Decl, want []api.Elem, err api.Errno, n int) {
	t.Helper()
	got, gotErr, gotN := decl.Write(ds)
	if gotErr != err || gotN != n {
		t.Errorf("Write(%+v): error %d at %d; want %d at %d", ds[:min(len(ds), 9)], gotErr, gotN, err, n)
	}
	if err != api.OK && got != nil {
		t.Errorf("Write(%+v): %d elements beside an error", ds[:min(len(ds), 9)], len(got))
	}
	if err == api.OK && !slices.EqualFunc(got, want, equal) {
		t.Errorf("Write(%+v) = %v; want %v", ds[:min(len(ds), 9)], got, want)
	}
}

func equal(a, b api.Elem) bool {
	return a.Depth == b.Depth && a.Name == b.Name && a.Text == b.Text && a.At == b.At && slices.Equal(a.Attrs, b.Attrs)
}

// holdSecondWrite holds that declarations are written, or refused, as the second writer does.
func holdSecondWrite(t *testing.T, ds []api.Decl) bool {
	t.Helper()
	want, err, n := secondWrite(ds)
	holdWrite(t, ds, want, err, n)
	return err == api.OK
}

func declsOf(t *testing.T, es []api.Elem) []api.Decl {
	t.Helper()
	ds, err, at := decl.Read(es)
	if err != api.OK {
		t.Fatalf("%v: error %d at %d", es, err, at)
	}
	return ds
}

// P6.3: the chapter's fourth example.
func TestWriteExamples(t *testing.T) {
	d := func(depth int, kind api.DeclKind, name, typ string, id int) api.Decl {
		return api.Decl{Depth: depth, Kind: kind, Name: name, Type: typ, ID: id, Length: -1, Offset: -1, Block: -1, Deprecated: -1, At: 40 * depth}
	}
	schema := d(1, api.DeclSchema, "p.q", "messageHeader", 1)
	attr := func(name, value string) api.Attr { return api.Attr{Name: name, Value: value} }
	root := api.Elem{Depth: 1, Name: "messageSchema", Attrs: []api.Attr{attr("package", "p.q"), attr("id", "1")}}
	holdWrite(t, []api.Decl{schema}, []api.Elem{root}, api.OK, 0)
	message := d(2, api.DeclMessage, "m", "", 2)
	group := d(3, api.DeclGroup, "g", "groupSizeEncoding", 3)
	other := d(3, api.DeclGroup, "h", "other", 0)
	field := d(3, api.DeclField, "f", "x", 65535)
	field.Presence, field.HasPresence, field.Value, field.Since, field.Offset, field.Note, field.Meaning, field.Deprecated = api.Constant, true, "A.B", 9, 0, "<", "s", 0
	holdWrite(t, []api.Decl{schema, message, group, other, field}, []api.Elem{
		root,
		{Depth: 2, Name: "message", Attrs: []api.Attr{attr("name", "m"), attr("id", "2")}},
		{Depth: 3, Name: "group", Attrs: []api.Attr{attr("name", "g"), attr("id", "3")}},
		{Depth: 3, Name: "group", Attrs: []api.Attr{attr("name", "h"), attr("id", "0"), attr("dimensionType", "other")}},
		{Depth: 3, Name: "field", Attrs: []api.Attr{attr("name", "f"), attr("id", "65535"), attr("type", "x"), attr("offset", "0"), attr("presence", "constant"), attr("valueRef", "A.B"), attr("sinceVersion", "9"), attr("deprecated", "0"), attr("semanticType", "s"), attr("description", "<")}},
	}, api.OK, 0)
	types, enum, valid := d(2, api.DeclTypes, "", "", -1), d(3, api.DeclEnum, "E", "uint8", -1), d(4, api.DeclValid, "v", "", -1)
	valid.Value = "1 2"
	written, err, n := decl.Write([]api.Decl{schema, types, enum, valid, valid})
	if err != api.OK || n != 0 || len(written) != 5 || written[1].Attrs != nil || written[4].Text != "1 2" || written[2].Text != "" {
		t.Errorf("%v, error %d at %d", written, err, n)
	}
	long, half, empty, untrimmed := schema, field, valid, valid
	long.Length, half.Value, empty.Value, untrimmed.Value = 3, "A", "", " x"
	holdWrite(t, nil, nil, api.ErrDeclMade, 0)
	holdWrite(t, []api.Decl{}, nil, api.ErrDeclMade, 0)
	holdWrite(t, []api.Decl{d(1, api.DeclType, "a", "int8", -1)}, nil, api.ErrDeclMade, 0)
	holdWrite(t, []api.Decl{long}, nil, api.ErrDeclMade, 0)
	holdWrite(t, []api.Decl{schema, message, half}, nil, api.ErrDeclMade, 2)
	holdWrite(t, []api.Decl{schema, message, group, half, long}, nil, api.ErrDeclMade, 3)
	holdWrite(t, []api.Decl{schema, types, enum, empty}, nil, api.ErrDeclMade, 3)
	holdWrite(t, []api.Decl{schema, types, enum, valid, untrimmed, valid}, nil, api.ErrDeclMade, 4)
}

// P6.3: each element with nothing that needn't be said, and with all that may be, is written in the order of its row.
func TestWriteAll(t *testing.T) {
	for _, kind := range kinds() {
		es := chain(kind)
		last := len(es) - 1
		for _, e := range []api.Elem{least(kind, last+1), most(kind, last+1)} {
			es[last] = e
			ds := declsOf(t, es)
			want := slices.Clone(es)
			for n := range want {
				want[n].Text = strings.Trim(want[n].Text, " \n")
			}
			holdWrite(t, ds, want, api.OK, 0)
			slices.Reverse(es[last].Attrs)
			es[last].Name = "sbe:" + es[last].Name
			holdWrite(t, declsOf(t, es), func() []api.Elem { slices.Reverse(want[last].Attrs); return want }(), api.OK, 0)
		}
	}
}

// spoilt are values of fields, some that may be and some that may not.
func spoilt(kind reflect.Kind) []any {
	if kind == reflect.Bool {
		return []any{false, true}
	}
	var all []any
	if kind == reflect.Int {
		for _, n := range []int{math.MinInt, -65536, -2, -1, 0, 1, 2, 3, 4, 11, 12, 13, 16, 17, 255, 65533, 65534, 65535, 65536, 1 << 32, math.MaxInt} {
			all = append(all, n)
		}
		return all
	}
	for _, s := range []string{
		"", " ", "a", "_9", "A.B", "a.b.c", " x", "x\n", "1", "1 2", "a b", "é", "\u00a0", "\x00", "\xff", "\ufffe", "a\x01", "messageHeader", "groupSizeEncoding", "required", "-1", "<&\"'>", "\r",
		strings.Repeat("n", 64), strings.Repeat("n", 65), strings.Repeat("a.", 127) + "a", strings.Repeat("a.", 127) + "ab", strings.Repeat("n", 64) + "." + strings.Repeat("n", 64), ".", "A.", ".B", "A.B\x00",
	} {
		all = append(all, s)
	}
	return all
}

// P6.3: of each Kind a declaration with little and one with all, each field of it spoilt by itself, at the end of a list and within one: the second writer tells which can be.
func TestWriteSpoilt(t *testing.T) {
	taken, refused := 0, 0
	for _, kind := range kinds() {
		es := chain(kind)
		last := len(es) - 1
		constant := most(kind, last+1)
		for n := range constant.Attrs {
			if constant.Attrs[n].Name == "presence" {
				constant.Attrs[n].Value = "constant"
			}
		}
		for _, e := range []api.Elem{least(kind, last+1), most(kind, last+1), constant} {
			es[last] = e
			ds := declsOf(t, es)
			for f := range reflect.TypeFor[api.Decl]().NumField() {
				field := reflect.TypeFor[api.Decl]().Field(f)
				for _, value := range spoilt(field.Type.Kind()) {
					changed := slices.Clone(ds)
					reflect.ValueOf(&changed[last]).Elem().Field(f).Set(reflect.ValueOf(value).Convert(field.Type))
					if holdSecondWrite(t, changed) {
						taken++
						continue
					}
					refused++
					if _, _, n := secondWrite(changed); n != last {
						t.Errorf("%+v is refused at %d", changed, n)
					}
					holdWrite(t, append(changed, ds[last]), nil, api.ErrDeclMade, last)
					holdWrite(t, append(changed, api.Decl{}), nil, api.ErrDeclMade, last)
				}
			}
		}
	}
	if taken < 2000 || refused < 5000 {
		t.Errorf("%d taken, %d refused", taken, refused)
	}
}

// P6.3: Kinds that are none, and each declaration in each other one.
func TestWritePlaces(t *testing.T) {
	for _, kind := range kinds() {
		ds := declsOf(t, chain(kind))
		for _, none := range []api.DeclKind{-1, 13, math.MinInt, math.MaxInt} {
			d := ds[len(ds)-1]
			d.Kind = none
			holdWrite(t, append(slices.Clone(ds), d), nil, api.ErrDeclMade, len(ds))
			d.Depth++
			holdWrite(t, append(slices.Clone(ds), d, ds[0]), nil, api.ErrDeclMade, len(ds))
			holdWrite(t, []api.Decl{d}, nil, api.ErrDeclMade, 0)
		}
		for _, holder := range kinds() {
			ahead := declsOf(t, chain(holder))
			d := ds[len(ds)-1]
			d.Depth = len(ahead) + 1
			if mayStand(kind, rows[holder].name) != holdSecondWrite(t, append(ahead, d)) {
				t.Errorf("%v in %v", kind, holder)
			}
		}
		alone := ds[len(ds)-1]
		alone.Depth = 1
		if holdSecondWrite(t, []api.Decl{alone}) != (kind == api.DeclSchema) {
			t.Errorf("%v alone", kind)
		}
	}
}

// nested is a list whose last declarations stand in one another up to a Depth.
func nested(t *testing.T, kind api.DeclKind, depth int) []api.Decl {
	ds := declsOf(t, chain(kind))
	for len(ds) < depth {
		d := ds[len(ds)-1]
		d.Depth++
		ds = append(ds, d)
	}
	return ds
}

// P6.3: Depths at their bounds.
func TestWriteDepths(t *testing.T) {
	for _, kind := range []api.DeclKind{api.DeclComposite, api.DeclGroup} {
		if !holdSecondWrite(t, nested(t, kind, api.MaxDepth)) {
			t.Errorf("a Depth of %d is refused", api.MaxDepth)
		}
		holdWrite(t, nested(t, kind, api.MaxDepth+1), nil, api.ErrDeclMade, api.MaxDepth)
		holdWrite(t, nested(t, kind, api.MaxDepth+5), nil, api.ErrDeclMade, api.MaxDepth)
		for _, depth := range []int{math.MinInt, -1, 0, 1, 2, 3, 4, 5, 6, 7, 16, 17, math.MaxInt} {
			ds := nested(t, kind, 5)
			d := ds[4]
			d.Depth = depth
			holdSecondWrite(t, append(ds, d))
			holdSecondWrite(t, append(ds, d, ds[4]))
			d = ds[0]
			d.Depth = depth
			holdSecondWrite(t, []api.Decl{d})
			holdSecondWrite(t, append([]api.Decl{d}, ds...))
		}
	}
	bottom := nested(t, api.DeclComposite, api.MaxDepth-1)
	ref := declsOf(t, chain(api.DeclRef))[3]
	ref.Depth = api.MaxDepth
	if !holdSecondWrite(t, append(bottom, ref)) {
		t.Error("a ref at the greatest Depth is refused")
	}
}

// many is a list of n declarations, with messages that have fields.
func many(t *testing.T, n int) []api.Decl {
	some := declsOf(t, chain(api.DeclField))
	ds := some[:1:1]
	for len(ds) < n {
		ds = append(ds, some[1+len(ds)%2])
		if len(ds) == 2 {
			ds[1] = some[1]
		}
	}
	return ds
}

// P6.3, P6.4: as many declarations as a tree may have elements, and one more; a fault ahead of that is told first.
func TestWriteMany(t *testing.T) {
	ds := many(t, api.MaxElems)
	es, err, n := decl.Write(ds)
	if err != api.OK || n != 0 || len(es) != api.MaxElems {
		t.Fatalf("%d elements, error %d at %d", len(es), err, n)
	}
	holdRead(t, es, withoutAt(ds), api.OK, 0)
	long := many(t, 3*api.MaxElems)
	holdWrite(t, long[:api.MaxElems+1], nil, api.ErrDeclMade, api.MaxElems)
	holdWrite(t, long, nil, api.ErrDeclMade, api.MaxElems)
	long[api.MaxElems-1].Name = ""
	holdWrite(t, long, nil, api.ErrDeclMade, api.MaxElems-1)
	long[3].Kind = -1
	holdWrite(t, long, nil, api.ErrDeclMade, 3)
	long[2].Note = "\x00"
	holdWrite(t, long, nil, api.ErrDeclMade, 2)
}

func withoutAt(ds []api.Decl) []api.Decl {
	out := slices.Clone(ds)
	for n := range out {
		out[n].At = 0
	}
	return out
}

// randomTree makes elements that mostly may stand where they do, with attributes that are mostly theirs.
func randomTree(r *rand.Rand, wrong float64) []api.Elem {
	es := []api.Elem{randomElem(r, api.DeclSchema, 1, wrong)}
	open := []api.DeclKind{api.DeclSchema}
	for n := r.Intn(12); n > 0; n-- {
		open = open[:1+r.Intn(len(open))]
		var fit []api.DeclKind
		for _, kind := range kinds() {
			if mayStand(kind, rows[open[len(open)-1]].name) || r.Float64() < wrong/4 {
				fit = append(fit, kind)
			}
		}
		if len(fit) == 0 || len(open) == api.MaxDepth {
			continue
		}
		kind := fit[r.Intn(len(fit))]
		open = append(open, kind)
		es = append(es, randomElem(r, kind, len(open), wrong))
	}
	return es
}

func randomElem(r *rand.Rand, kind api.DeclKind, depth int, wrong float64) api.Elem {
	e := api.Elem{Depth: depth, Name: rows[kind].name, At: r.Intn(1000), Text: []string{"", "", " ", "\n\t"}[r.Intn(4)]}
	if r.Intn(4) == 0 {
		e.Name = "sbe:" + e.Name
	}
	names := []string{"a", "b_1", "p", "messageHeader", "groupSizeEncoding", "Z"}
	numbers := []string{"0", "1", "00", "007", "65534", "12"}
	good := map[string][]string{
		"symbol": names, "dotted": append([]string{"a.b", "p._.q"}, names...), "any": {"", " ", "x", "<&\n", "é"}, "filled": {"0", " ", "#32", "-1"}, "ref": {"A.B", "_._"},
		"65534": numbers, "65535": append([]string{"65535"}, numbers...), "littleEndian|bigEndian": {"littleEndian", "bigEndian"}, "required|optional|constant": {"required", "optional", "constant", "constant"},
	}
	constant := false
	for _, name := range attrsOf(kind) {
		values := good[meanings[name].values]
		value := values[r.Intn(len(values))]
		if r.Float64() < wrong/6 {
			value = []string{"", " ", "a b", "65536", "Optional", "a.b.c", "A"}[r.Intn(7)]
		}
		if _, must := has(kind, name); must && r.Float64() >= wrong/6 || r.Intn(3) == 0 {
			e.Attrs = append(e.Attrs, api.Attr{Name: name, Value: value, At: r.Intn(1000)})
			constant = constant || value == "constant"
		}
	}
	if r.Intn(6) == 0 {
		e.Attrs = append(e.Attrs, api.Attr{Name: "xmlns:x", Value: "?", At: r.Intn(1000)})
	}
	if r.Float64() < wrong/4 {
		e.Attrs = append(e.Attrs, api.Attr{Name: "semanticVersion", Value: "?", At: r.Intn(1000)})
	}
	r.Shuffle(len(e.Attrs), func(i, j int) { e.Attrs[i], e.Attrs[j] = e.Attrs[j], e.Attrs[i] })
	must := kind == api.DeclValid || kind == api.DeclChoice
	if (must || constant && kind == api.DeclType && r.Intn(4) > 0) != (r.Float64() < wrong/4) {
		e.Text = []string{"1", " 2 ", "\na b\r", "é"}[r.Intn(4)]
	}
	return e
}

// words counts what an element says: its attributes that aren't passed over, and their and its text's bytes.
func words(e api.Elem) (attrs, size int) {
	kind := api.DeclKind(kindNamed(strings.TrimPrefix(e.Name, "sbe:")))
	for _, a := range e.Attrs {
		if !passed(kind, a.Name) {
			attrs++
			size += len(a.Value)
		}
	}
	return attrs, size + len(e.Text)
}

// P6.2, P6.3, P6.4: random trees are read as the second reader reads them; what is read is written as the second writer writes it, says the same with no more words, and is written the same again.
func TestReadAndWrite(t *testing.T) {
	r := rand.New(rand.NewSource(6))
	errs := map[api.Errno]int{}
	for n := range 8000 {
		es := randomTree(r, float64(n%2)/2)
		want, err, at := secondRead(es)
		holdRead(t, es, want, err, at)
		if errs[err]++; err != api.OK {
			continue
		}
		if !holdSecondWrite(t, want) {
			t.Fatalf("%+v aren't written", want)
		}
		back, _, _ := decl.Write(want)
		holdRead(t, back, withoutAt(want), api.OK, 0)
		for i := range back {
			attrs, size := words(back[i])
			if most, long := words(es[i]); attrs > most || size > long {
				t.Fatalf("%v is written as %v", es[i], back[i])
			}
		}
		text, err, _ := xmltree.Print(back)
		if err != api.OK {
			t.Fatalf("%v: error %d", back, err)
		}
		read, _, _ := decl.Read(parse(t, text))
		holdWrite(t, read, back, api.OK, 0)
	}
	for _, err := range []api.Errno{api.OK, api.ErrDeclName, api.ErrDeclAttr, api.ErrDeclMiss, api.ErrDeclValue, api.ErrDeclText} {
		if errs[err] < 100 {
			t.Errorf("error %d: only %d trees", err, errs[err])
		}
	}
}

// P6.3, P6.4: random lists, some fields of which are spoilt, are written as the second writer writes them, or refused at the same number; what is written is read as the same.
func TestWriteAndRead(t *testing.T) {
	r := rand.New(rand.NewSource(66))
	taken, refused := 0, 0
	for range 8000 {
		ds := declsOf(t, randomTree(r, 0))
		for range r.Intn(3) {
			f := r.Intn(reflect.TypeFor[api.Decl]().NumField())
			field := reflect.TypeFor[api.Decl]().Field(f)
			values := spoilt(field.Type.Kind())
			reflect.ValueOf(&ds[r.Intn(len(ds))]).Elem().Field(f).Set(reflect.ValueOf(values[r.Intn(len(values))]).Convert(field.Type))
		}
		if !holdSecondWrite(t, ds) {
			refused++
			continue
		}
		taken++
		es, _, _ := decl.Write(ds)
		if err, n := xmltree.Check(es); err != api.OK {
			t.Fatalf("%v is no tree: error %d at %d", es, err, n)
		}
		holdRead(t, es, withoutAt(ds), api.OK, 0)
	}
	if taken < 2000 || refused < 2000 {
		t.Errorf("%d taken, %d refused", taken, refused)
	}
}

// P6.3: the numbers of an enum of orders or presences that are none are refused wherever they stand, with HasPresence and without.
func TestWriteNoWord(t *testing.T) {
	for _, none := range []int{math.MinInt, -1, 2, 3, 255, math.MaxInt} {
		schema := declsOf(t, chain(api.DeclSchema))
		schema[0].Order = api.Endian(none)
		holdWrite(t, schema, nil, api.ErrDeclMade, 0)
		for _, kind := range kinds() {
			for _, written := range []bool{false, true} {
				ds := declsOf(t, chain(kind))
				d := &ds[len(ds)-1]
				d.Presence, d.HasPresence = api.Presence(none), written
				may := none == 2 && written && (kind == api.DeclType || kind == api.DeclField)
				if holdSecondWrite(t, ds) != may {
					t.Errorf("%+v", *d)
				}
			}
		}
	}
}

func deepCopy(es []api.Elem) []api.Elem {
	out := slices.Clone(es)
	for n := range out {
		out[n].Attrs = slices.Clone(out[n].Attrs)
	}
	return out
}

// P6.5: nothing that is handed in changes, room behind it too, whether it is taken or refused.
func TestArgumentsStay(t *testing.T) {
	for _, wrong := range []string{"a", "", "1"} {
		es := make([]api.Elem, 0, 20)
		for _, e := range append(placed(chain(api.DeclField)), most(api.DeclField, 3)) {
			as := append(make([]api.Attr, 0, 12), e.Attrs...)
			as[:12][11] = api.Attr{Name: "kept", Value: "kept", At: 4}
			e.Attrs = as
			es = append(es, e)
		}
		es[3].Attrs[0].Value = wrong
		es[:20][19] = api.Elem{Name: "kept"}
		elems := deepCopy(es[:20])
		var rooms [][]api.Attr
		for _, e := range es {
			rooms = append(rooms, slices.Clone(e.Attrs[:12]))
		}
		decl.Read(es)
		if !slices.EqualFunc(es[:20], elems, equal) {
			t.Error("elements that were handed in have changed")
		}
		for n, e := range es {
			if !slices.Equal(e.Attrs[:12], rooms[n]) {
				t.Error("attributes that were handed in have changed")
			}
		}
		ds := append(make([]api.Decl, 0, 20), declsOf(t, placed(chain(api.DeclField)))...)
		ds[:20][19] = api.Decl{Name: "kept"}
		ds[2].Name = wrong
		decls := slices.Clone(ds[:20])
		decl.Write(ds)
		if !slices.Equal(ds[:20], decls) {
			t.Error("declarations that were handed in have changed")
		}
	}
}

// P6.5: what is answered is new memory, of which no two lists share any, room behind them too; later calls answer the same.
func TestAnswersAreNew(t *testing.T) {
	es := append(placed(chain(api.DeclField)), most(api.DeclField, 3), most(api.DeclField, 3))
	read, written := declsOf(t, es), declsOf(t, es)
	want := slices.Clone(read)
	for n := range written[:cap(written)] {
		written[:cap(written)][n] = api.Decl{Name: "?"}
	}
	if !slices.Equal(read, want) {
		t.Error("two answers of Read share memory")
	}
	one, _, _ := decl.Write(read)
	two, _, _ := decl.Write(read)
	kept := deepCopy(two)
	for n := range one {
		room := one[n].Attrs[:cap(one[n].Attrs)]
		for m := range room {
			room[m] = api.Attr{Name: "?"}
		}
		for m := n + 1; m < len(one); m++ {
			if !slices.Equal(one[m].Attrs, kept[m].Attrs) {
				t.Errorf("the attributes of elements %d and %d share memory", n, m)
			}
		}
	}
	for n := range one[:cap(one)] {
		one[:cap(one)][n] = api.Elem{Name: "?"}
	}
	if !slices.EqualFunc(two, kept, equal) {
		t.Error("two answers of Write share memory")
	}
	holdRead(t, es, want, api.OK, 0)
	holdWrite(t, want, kept, api.OK, 0)
}

// P6.5: no text of an answer lies in the memory of one that is handed in.
func TestTextsAreNew(t *testing.T) {
	fresh := func(n int) string { return strings.Clone("aaaaaaaaaaaaaaaa" + strconv.Itoa(n)) }
	apart := func(in []string, out ...string) {
		t.Helper()
		for _, i := range in {
			for _, o := range out {
				if o != "" && unsafe.StringData(i) == unsafe.StringData(o) {
					t.Errorf("%q lies where it was handed in", o)
				}
			}
		}
	}
	for _, kind := range kinds() {
		es := chain(kind)
		last := len(es) - 1
		es[last] = most(kind, last+1)
		var in []string
		for n := range es[last].Attrs {
			a := &es[last].Attrs[n]
			if values := meanings[a.Name].values; forms[values] != nil && values != "ref" {
				a.Value = fresh(n)
			}
			a.Value = strings.Clone(a.Value)
			in = append(in, a.Value)
		}
		if es[last].Text != "" {
			es[last].Text = fresh(99)
			in = append(in, es[last].Text)
		}
		ds := declsOf(t, es)
		d := ds[last]
		out := []string{d.Name, d.Type, d.Null, d.Min, d.Max, d.Value, d.Note, d.Meaning}
		apart(in, out...)
		written, _, _ := decl.Write(ds)
		for _, a := range written[last].Attrs {
			apart(out, a.Value)
		}
		apart(out, written[last].Text)
	}
}

func used(f func()) uint64 {
	var before, after runtime.MemStats
	runtime.ReadMemStats(&before)
	f()
	runtime.ReadMemStats(&after)
	return after.TotalAlloc - before.TotalAlloc
}

// P6.5: ten times as much asks for about ten times the memory, in elements, in attributes' texts and in names' points.
func TestWorkIsLinear(t *testing.T) {
	for name, made := range map[string]func(n int) []api.Elem{
		"elements": func(n int) []api.Elem { es, _, _ := decl.Write(many(t, n)); return es },
		"texts": func(n int) []api.Elem {
			es := chain(api.DeclField)
			es[2].Attrs = append(es[2].Attrs, api.Attr{Name: "description", Value: strings.Repeat("x", 100*n)})
			return es
		},
		"zeros": func(n int) []api.Elem {
			es := chain(api.DeclField)
			es[2].Attrs[1].Value = zeros(100*n, "1")
			return es
		},
		"blanks": func(n int) []api.Elem {
			es := chain(api.DeclValid)
			es[3].Text = strings.Repeat(" ", 50*n) + "x" + strings.Repeat(" ", 50*n)
			return es
		},
	} {
		few, lots := made(1000), made(10000)
		ds := declsOf(t, lots)
		little, much := used(func() { decl.Read(few) }), used(func() { decl.Read(lots) })
		if much > 30*little+1<<20 {
			t.Errorf("%s: Read takes %d and %d bytes", name, little, much)
		}
		little, much = used(func() { decl.Write(declsOf(t, few)) }), used(func() { decl.Write(ds) })
		if much > 30*little+1<<20 {
			t.Errorf("%s: Write takes %d and %d bytes", name, little, much)
		}
	}
	dots := chain(api.DeclSchema)
	dots[0].Attrs[0].Value = strings.Repeat("a.", 5000000) + "a"
	holdRead(t, dots, nil, api.ErrDeclValue, 0)
}
