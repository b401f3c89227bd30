package xmltree_test

import (
	"math"
	"math/rand"
	"reflect"
	"runtime"
	"slices"
	"strconv"
	"strings"
	"testing"

	"stencil/api"
	"stencil/text"
	"stencil/xmllex"
	"stencil/xmltree"
)

func elem(depth int, name string, at int) api.Elem { return api.Elem{Depth: depth, Name: name, At: at} }

func attr(name, value string, at int) api.Attr { return api.Attr{Name: name, Value: value, At: at} }

// equal holds two lists against each other in all fields, At too.
func equal(a, b []api.Elem) bool {
	return slices.EqualFunc(a, b, func(x, y api.Elem) bool {
		return x.Depth == y.Depth && x.Name == y.Name && x.Text == y.Text && x.At == y.At && slices.Equal(x.Attrs, y.Attrs)
	})
}

func holdParse(t *testing.T, s string, want []api.Elem, err api.Errno, at int) {
	t.Helper()
	got, gotErr, gotAt := xmltree.Parse(s)
	if gotErr != err || gotAt != at {
		t.Errorf("Parse(%.90q): error %d at %d; want %d at %d", s, gotErr, gotAt, err, at)
	}
	if err != api.OK && got != nil {
		t.Errorf("Parse(%.90q): %d elements beside an error", s, len(got))
	}
	if err == api.OK && !equal(got, want) {
		t.Errorf("Parse(%.90q) = %+v; want %+v", s, got, want)
	}
}

// P5.1: the chapter's text, and others that are trees.
func TestParse(t *testing.T) {
	for _, c := range []struct {
		s    string
		want []api.Elem
	}{
		{"<a x='1'>b<c/>d<!--e--></a>", []api.Elem{{Depth: 1, Name: "a", Attrs: []api.Attr{attr("x", "1", 3)}, Text: "bd"}, elem(2, "c", 10)}},
		{"<a/>", []api.Elem{elem(1, "a", 0)}},
		{"<a></a>", []api.Elem{elem(1, "a", 0)}},
		{"<a ></a >", []api.Elem{elem(1, "a", 0)}},
		{" \t\r\n<a/>\n", []api.Elem{elem(1, "a", 4)}},
		{"<a/>&#32;&#9;", []api.Elem{elem(1, "a", 0)}},
		{"<?xml version='1.0'?>\n<!--x--><a/><!--y--> <!---->", []api.Elem{elem(1, "a", 30)}},
		{"<a> </a>", []api.Elem{{Depth: 1, Name: "a", Text: " "}}},
		{"<a>&lt;<!--&-->&#65;]]></a>", []api.Elem{{Depth: 1, Name: "a", Text: "<A]]>"}}},
		{"<a>1<b>2<c>3</c>4</b>5<b>6</b>7</a>", []api.Elem{
			{Depth: 1, Name: "a", Text: "157"}, {Depth: 2, Name: "b", Text: "24", At: 4}, {Depth: 3, Name: "c", Text: "3", At: 8}, {Depth: 2, Name: "b", Text: "6", At: 22}}},
		{"<a><a><a/></a><a/></a>", []api.Elem{elem(1, "a", 0), elem(2, "a", 3), elem(3, "a", 6), elem(2, "a", 14)}},
		{"<a><b/><b><c/></b><d/></a>", []api.Elem{elem(1, "a", 0), elem(2, "b", 3), elem(2, "b", 7), elem(3, "c", 10), elem(2, "d", 18)}},
		{"<s:a x='&quot;' y=''\nX=\"'\"><b x='&#10;'/></s:a>", []api.Elem{
			{Depth: 1, Name: "s:a", Attrs: []api.Attr{attr("x", "\"", 5), attr("y", "", 16), attr("X", "'", 21)}},
			{Depth: 2, Name: "b", Attrs: []api.Attr{attr("x", "\n", 30)}, At: 27}}},
		{"<a x='1'><b/><c x='1'>t</c></a>", []api.Elem{
			{Depth: 1, Name: "a", Attrs: []api.Attr{attr("x", "1", 3)}}, elem(2, "b", 9), {Depth: 2, Name: "c", Attrs: []api.Attr{attr("x", "1", 16)}, Text: "t", At: 13}}},
	} {
		holdParse(t, c.s, c.want, api.OK, 0)
	}
}

// P5.1: the chapter's faults, and others, each at its place.
func TestParseFaults(t *testing.T) {
	for _, c := range []struct {
		s   string
		err api.Errno
		at  int
	}{
		{"", api.ErrTreeRoot, 0},
		{"  ", api.ErrTreeRoot, 2},
		{"<!--a-->", api.ErrTreeRoot, 8},
		{"<?xml version='1.0'?>", api.ErrTreeRoot, 21},
		{"<a/><b/>", api.ErrTreeRoot, 4},
		{"<a></a> <!--x--> <a>", api.ErrTreeRoot, 17},
		{"<a/><b", api.ErrXMLEnd, 6},
		{"<a/>x", api.ErrTreeRoot, 4},
		{"<a></a>&#160;", api.ErrTreeRoot, 7},
		{"<a/> <!---->&lt;", api.ErrTreeRoot, 12},
		{"x<a/>", api.ErrTreeRoot, 0},
		{" \ufeff<a/>", api.ErrTreeRoot, 0},
		{"x", api.ErrTreeRoot, 0},
		{"<a>", api.ErrTreePair, 3},
		{"<a x='1'>b", api.ErrTreePair, 10},
		{"<a><b></b>", api.ErrTreePair, 10},
		{"<a><b></b> <!---->", api.ErrTreePair, 18},
		{"<a></b>", api.ErrTreePair, 3},
		{"<a></A>", api.ErrTreePair, 3},
		{"<a></aa>", api.ErrTreePair, 3},
		{"<aa></a>", api.ErrTreePair, 4},
		{"<s:a></a>", api.ErrTreePair, 5},
		{"<a><b></a></b>", api.ErrTreePair, 6},
		{"<a>x<b/></b></a>", api.ErrTreePair, 8},
		{"<a></a></a>", api.ErrTreePair, 7},
		{"</a>", api.ErrTreePair, 0},
		{" </a>", api.ErrTreePair, 1},
		{"<a/></a><b/>", api.ErrTreePair, 4},
		{"<a x='1' y='2' x='3'/>", api.ErrTreeTwice, 15},
		{"<a><b x='1' x='1'></a>", api.ErrTreeTwice, 12},
		{"</a><b c='1' c='2'>", api.ErrTreePair, 0},
		{"<a c='1' c='2'></b>x", api.ErrTreeTwice, 9},
		{"x</a>", api.ErrTreeRoot, 0},
	} {
		holdParse(t, c.s, nil, c.err, c.at)
	}
}

// P5.1: a text that is no pieces has the lexer's error and place, whatever is wrong with the tree ahead of it.
func TestParseLexFaults(t *testing.T) {
	for _, s := range []string{"<a", "<", "<a b>", "<a>\x00</a>", "<a>\xff</a>", "<1/>", "<a>&b;</a>", "<!---", "<a><!-- -- --></a>", "<?php?>", "<a><![CDATA[]]></a>", "<a b='<'/>", strings.Repeat(" ", api.MaxInput+1)} {
		for _, ahead := range []string{"", "<a/><b/>", "x", "</a>", "<a x='1' x='2'>", strings.Repeat("<a>", 17)} {
			s := ahead + s
			_, err, at := xmllex.Tokens(s)
			if err == api.OK {
				t.Fatalf("%.90q is no fault", s)
			}
			holdParse(t, s, nil, err, at)
		}
	}
}

func nested(depth int) string { return strings.Repeat("<a>", depth) + strings.Repeat("</a>", depth) }

func attrs(n int) string {
	var b strings.Builder
	for i := range n {
		b.WriteString(" k" + strconv.Itoa(i) + "='" + strconv.Itoa(i) + "'")
	}
	return b.String()
}

// P5.1: the limits, and which of two faults of one piece comes first.
func TestParseLimits(t *testing.T) {
	deep, err, _ := xmltree.Parse(nested(api.MaxDepth))
	if err != api.OK || len(deep) != api.MaxDepth || deep[api.MaxDepth-1].Depth != api.MaxDepth {
		t.Errorf("Depth %d: error %d, %d elements", api.MaxDepth, err, len(deep))
	}
	holdParse(t, nested(api.MaxDepth+1), nil, api.ErrTreeDepth, 3*api.MaxDepth)
	holdParse(t, strings.Repeat("<a>", api.MaxDepth+1), nil, api.ErrTreeDepth, 48)
	holdParse(t, strings.Repeat("<a>", api.MaxDepth)+"<b/>", nil, api.ErrTreeDepth, 48)

	wide := func(n int) string { return "<a>" + strings.Repeat("<b/>", n) }
	es, err, at := xmltree.Parse(wide(api.MaxElems-1) + "</a>")
	if err != api.OK || at != 0 || len(es) != api.MaxElems {
		t.Errorf("%d elements: error %d at %d, %d elements", api.MaxElems, err, at, len(es))
	}
	holdParse(t, wide(api.MaxElems)+"</a>", nil, api.ErrTreeBig, 3+4*(api.MaxElems-1))
	holdParse(t, wide(api.MaxElems-1)+"<b x='' x=''/></a>", nil, api.ErrTreeBig, 3+4*(api.MaxElems-1))
	holdParse(t, wide(api.MaxElems-1)+"</a><b/>", nil, api.ErrTreeRoot, 3+4*(api.MaxElems-1)+4)
	ladder := wide(api.MaxElems-api.MaxDepth) + strings.Repeat("<a>", api.MaxDepth-1)
	holdParse(t, ladder+"<b/>", nil, api.ErrTreeDepth, len(ladder))

	es, err, _ = xmltree.Parse("<a" + attrs(api.MaxAttrs) + "><b" + attrs(api.MaxAttrs) + "/></a>")
	if err != api.OK || len(es) != 2 || len(es[0].Attrs) != api.MaxAttrs || len(es[1].Attrs) != api.MaxAttrs || es[1].Attrs[23].Value != "23" {
		t.Errorf("%d attributes: error %d", api.MaxAttrs, err)
	}
	holdParse(t, "<a"+attrs(api.MaxAttrs)+" x=''/>", nil, api.ErrTreeBig, 3+len(attrs(api.MaxAttrs)))
	holdParse(t, "<a"+attrs(api.MaxAttrs)+" k0=''/>", nil, api.ErrTreeTwice, 3+len(attrs(api.MaxAttrs)))
	holdParse(t, "<a"+attrs(api.MaxAttrs)+" k23=''/>", nil, api.ErrTreeTwice, 3+len(attrs(api.MaxAttrs)))
}

// treeOf reads pieces from the chapter's words, an element with all that it holds at a time: a second reader to hold Parse against.
type treeOf struct {
	ts  []api.XTok
	end int
	es  []api.Elem
	err api.Errno
	at  int
}

func (o *treeOf) fail(err api.Errno, at int) bool { o.err, o.at = err, at; return false }

func (o *treeOf) outside() bool {
	for len(o.ts) > 0 {
		p := o.ts[0]
		o.ts = o.ts[1:]
		switch p.Kind {
		case api.XOpen:
			if len(o.es) > 0 {
				return o.fail(api.ErrTreeRoot, p.At)
			}
			if !o.element(p, 1) {
				return false
			}
		case api.XClose:
			return o.fail(api.ErrTreePair, p.At)
		case api.XText:
			if strings.Trim(p.Value, " \t\r\n") != "" {
				return o.fail(api.ErrTreeRoot, p.At)
			}
		}
	}
	if len(o.es) == 0 {
		return o.fail(api.ErrTreeRoot, o.end)
	}
	return true
}

func (o *treeOf) element(p api.XTok, depth int) bool {
	if depth > 16 {
		return o.fail(api.ErrTreeDepth, p.At)
	}
	n := len(o.es)
	o.es = append(o.es, elem(depth, p.Name, p.At))
	names := map[string]int{}
	for len(o.ts) > 0 {
		q := o.ts[0]
		o.ts = o.ts[1:]
		switch q.Kind {
		case api.XAttr:
			if names[q.Name]++; names[q.Name] > 1 {
				return o.fail(api.ErrTreeTwice, q.At)
			}
			o.es[n].Attrs = append(o.es[n].Attrs, attr(q.Name, q.Value, q.At))
		case api.XEmpty:
			return true
		case api.XOpen:
			if !o.element(q, depth+1) {
				return false
			}
		case api.XClose:
			return q.Name == p.Name || o.fail(api.ErrTreePair, q.At)
		case api.XText:
			o.es[n].Text += q.Value
		}
	}
	return o.fail(api.ErrTreePair, o.end)
}

// P5.1: every row of up to five bits of XML reads as the second reader reads it.
func TestParseAgainstSecondReader(t *testing.T) {
	bits := []string{"<a>", "<b x='1'>", "</a>", "</b>", "<a/>", "<b x='' y='2' x='3'/>", "x", " ", "<!--c-->"}
	trees := 0
	var hold func(s string, left int)
	hold = func(s string, left int) {
		ts, err, _ := xmllex.Tokens(s)
		if err != api.OK {
			t.Fatalf("%q: error %d", s, err)
		}
		o := treeOf{ts: ts, end: len(s)}
		if o.outside() {
			trees++
		}
		holdParse(t, s, o.es, o.err, o.at)
		if left > 0 {
			for _, b := range bits {
				hold(s+b, left-1)
			}
		}
	}
	hold("", 5)
	if trees < 300 {
		t.Errorf("only %d of the texts are trees", trees)
	}
}

// P5.1: text in many pieces is put together in work that is about linear.
func TestParseManyTexts(t *testing.T) {
	const n = 100000
	s := "<a>" + strings.Repeat("x<!---->", n) + "</a>"
	var before, after runtime.MemStats
	runtime.ReadMemStats(&before)
	es, err, _ := xmltree.Parse(s)
	runtime.ReadMemStats(&after)
	if err != api.OK || len(es) != 1 || es[0].Text != strings.Repeat("x", n) {
		t.Errorf("error %d", err)
	}
	if used := after.TotalAlloc - before.TotalAlloc; used > 500<<20 {
		t.Errorf("%d bytes of memory for a text of %d", used, len(s))
	}
}

func holdCheck(t *testing.T, es []api.Elem, err api.Errno, n int) {
	t.Helper()
	if gotErr, got := xmltree.Check(es); gotErr != err || got != n {
		t.Errorf("Check(%.200v): error %d at %d; want %d at %d", es[:min(len(es), 5)], gotErr, got, err, n)
	}
	if err == api.OK {
		return
	}
	if s, gotErr, got := xmltree.Print(es); s != "" || gotErr != err || got != n {
		t.Errorf("Print(%.200v): error %d at %d; want %d at %d", es[:min(len(es), 5)], gotErr, got, err, n)
	}
}

// P5.2, P5.3: the chapter's lists, and others, each fault by itself, at the first element and at a later one.
func TestCheck(t *testing.T) {
	root := elem(1, "a", 0)
	for _, c := range []struct {
		es  []api.Elem
		err api.Errno
		n   int
	}{
		{[]api.Elem{root, elem(3, "b", 0)}, api.ErrTreeMade, 1},
		{[]api.Elem{root, elem(1, "b", 0)}, api.ErrTreeRoot, 1},
		{[]api.Elem{elem(2, "a", 0)}, api.ErrTreeMade, 0},
		{[]api.Elem{elem(1, "a b", 0)}, api.ErrTreeMade, 0},
		{[]api.Elem{{Depth: 1, Name: "a", Text: "\x00"}}, api.ErrTreeMade, 0},
		{nil, api.ErrTreeRoot, 0},
		{[]api.Elem{}, api.ErrTreeRoot, 0},
		{[]api.Elem{root, elem(0, "b", 0)}, api.ErrTreeMade, 1},
		{[]api.Elem{elem(0, "a", 0)}, api.ErrTreeMade, 0},
		{[]api.Elem{elem(-1, "a", 0)}, api.ErrTreeMade, 0},
		{[]api.Elem{elem(math.MinInt, "a", 0)}, api.ErrTreeMade, 0},
		{[]api.Elem{elem(math.MaxInt, "a", 0)}, api.ErrTreeMade, 0},
		{[]api.Elem{elem(17, "a", 0)}, api.ErrTreeMade, 0},
		{[]api.Elem{root, elem(2, "b", 0), elem(4, "c", 0)}, api.ErrTreeMade, 2},
		{[]api.Elem{root, elem(2, "b", 0), elem(3, "c", 0), elem(2, "d", 0), elem(4, "e", 0)}, api.ErrTreeMade, 4},
		{[]api.Elem{root, elem(2, "b", 0), elem(math.MaxInt, "c", 0)}, api.ErrTreeMade, 2},
		{[]api.Elem{root, elem(2, "b", 0), elem(math.MinInt, "c", 0)}, api.ErrTreeMade, 2},
		{[]api.Elem{root, elem(2, "b", 0), elem(1, "c", 0)}, api.ErrTreeRoot, 2},
		{[]api.Elem{{Depth: 1}}, api.ErrTreeMade, 0},
		{[]api.Elem{root, elem(2, "", 0)}, api.ErrTreeMade, 1},
		{[]api.Elem{root, elem(2, "1", 0)}, api.ErrTreeMade, 1},
		{[]api.Elem{root, {Depth: 2, Name: "b", Attrs: []api.Attr{{}}}}, api.ErrTreeMade, 1},
		{[]api.Elem{{Depth: 1, Name: "a", Attrs: []api.Attr{attr("x", "", 0), attr("-", "", 0)}}}, api.ErrTreeMade, 0},
		{[]api.Elem{{Depth: 1, Name: "a", Attrs: []api.Attr{attr("x", "\xff", 0)}}}, api.ErrTreeMade, 0},
		{[]api.Elem{{Depth: 1, Name: "a", Attrs: []api.Attr{attr("x", "\x01", 0)}}}, api.ErrTreeMade, 0},
		{[]api.Elem{{Depth: 1, Name: "a", Attrs: []api.Attr{attr("x", "1", 0), attr("y", "2", 1), attr("x", "3", 2)}}}, api.ErrTreeTwice, 0},
		{[]api.Elem{{Depth: 1, Name: "a", Attrs: []api.Attr{attr("x", "", 0), attr("x", "", 0), attr("1", "", 0)}}}, api.ErrTreeTwice, 0},
		{[]api.Elem{{Depth: 1, Name: "a", Attrs: []api.Attr{attr("x", "", 0), attr("x", "\x00", 0)}}}, api.ErrTreeMade, 0},
		{[]api.Elem{{Depth: 1, Name: "a", Attrs: []api.Attr{attr("x", "", 0), attr("1", "", 0), attr("x", "", 0)}}}, api.ErrTreeMade, 0},
		{[]api.Elem{{Depth: 1, Name: "a", Attrs: []api.Attr{attr("1", "", 0), attr("1", "", 0)}}}, api.ErrTreeMade, 0},
		{[]api.Elem{root, {Depth: 2, Name: "b", Text: "\ufffe"}}, api.ErrTreeMade, 1},
		{[]api.Elem{root, {Depth: 2, Name: "b", Text: "\x80"}, elem(1, "c", 0)}, api.ErrTreeMade, 1},
		{[]api.Elem{root, elem(1, "c", 0), {Depth: 2, Name: "b", Text: "\x80"}}, api.ErrTreeRoot, 1},
		{[]api.Elem{root}, api.OK, 0},
		{[]api.Elem{root, elem(2, "b", -5), elem(3, "c", 7), elem(2, "a", 7)}, api.OK, 0},
		{[]api.Elem{{Depth: 1, Name: "a", Text: "\U0010ffff\r\n<&", Attrs: []api.Attr{attr("x", "\t'\"", -1), attr("X", "", 0)}}}, api.OK, 0},
	} {
		holdCheck(t, c.es, c.err, c.n)
	}
}

func manyAttrs(n int) []api.Attr {
	var as []api.Attr
	for i := range n {
		as = append(as, attr("k"+strconv.Itoa(i), "", 0))
	}
	return as
}

// P5.2: of all sets of faults that one element can have, the first of the chapter's order is told, and an element behind it isn't asked.
func TestCheckOrder(t *testing.T) {
	chain := func(n int) []api.Elem {
		es := []api.Elem{elem(1, "a", 0)}
		for len(es) < n-14 {
			es = append(es, elem(2, "b", 0))
		}
		for d := 2; len(es) < n; d++ {
			es = append(es, elem(d, "c", 0))
		}
		return es
	}
	for _, n := range []int{16, api.MaxElems - 1, api.MaxElems} {
		ahead := chain(n)
		last := ahead[n-1].Depth
		for _, depth := range []int{0, last + 2, 1, last + 1, last} {
			for faults := range 32 {
				e := elem(depth, "n", 0)
				want := api.OK
				tell := func(is bool, err api.Errno) {
					if is && want == api.OK {
						want = err
					}
				}
				tell(depth == 0 || depth == last+2, api.ErrTreeMade)
				tell(depth == 1, api.ErrTreeRoot)
				tell(depth > 16, api.ErrTreeDepth)
				tell(n == api.MaxElems, api.ErrTreeBig)
				if faults&1 != 0 {
					e.Name = "<"
					tell(true, api.ErrTreeMade)
				}
				if faults&2 != 0 {
					e.Attrs = manyAttrs(25)
					tell(true, api.ErrTreeBig)
				}
				if faults&4 != 0 {
					e.Attrs = append(e.Attrs, attr("z", "", 0), attr("z", "", 0))
					tell(true, api.ErrTreeTwice)
				}
				if faults&8 != 0 {
					e.Attrs = append(e.Attrs, attr("y", "\x00", 0))
					tell(true, api.ErrTreeMade)
				}
				if faults&16 != 0 {
					e.Text = "\x00"
					tell(true, api.ErrTreeMade)
				}
				es := append(slices.Clone(ahead), e)
				if want == api.OK {
					holdCheck(t, es, api.OK, 0)
					continue
				}
				if err, at := xmltree.Check(append(es, elem(-1, "", 0))); err != want || at != n {
					t.Errorf("Depth %d, faults %05b, number %d: error %d at %d; want %d", depth, faults, n, err, at, want)
				}
			}
		}
	}
}

// P5.2: the limits of a tree, and one more.
func TestCheckLimits(t *testing.T) {
	var deep []api.Elem
	for d := 1; d <= api.MaxDepth; d++ {
		deep = append(deep, elem(d, "a", 0))
	}
	holdCheck(t, deep, api.OK, 0)
	holdCheck(t, append(deep, elem(api.MaxDepth, "a", 0)), api.OK, 0)
	holdCheck(t, append(deep, elem(api.MaxDepth+1, "a", 0)), api.ErrTreeDepth, api.MaxDepth)
	wide := []api.Elem{elem(1, "a", 0)}
	for len(wide) < api.MaxElems {
		wide = append(wide, elem(2, "b", 0))
	}
	holdCheck(t, wide, api.OK, 0)
	holdCheck(t, append(wide, elem(2, "b", 0)), api.ErrTreeBig, api.MaxElems)
	holdCheck(t, append(wide, elem(2, "b", 0), elem(9, "", 0)), api.ErrTreeBig, api.MaxElems)
	holdCheck(t, []api.Elem{{Depth: 1, Name: "a", Attrs: manyAttrs(api.MaxAttrs)}}, api.OK, 0)
	holdCheck(t, []api.Elem{{Depth: 1, Name: "a", Attrs: manyAttrs(api.MaxAttrs + 1)}}, api.ErrTreeBig, 0)
}

// printed writes the element at a place from the chapter's words, with what it holds.
func printed(es []api.Elem, i int) string {
	s := "<" + es[i].Name
	for _, a := range es[i].Attrs {
		s += " " + a.Name + "=\"" + text.Escape(a.Value, true) + "\""
	}
	inner := ""
	for n := i + 1; n < len(es) && es[n].Depth > es[i].Depth; n++ {
		if es[n].Depth == es[i].Depth+1 {
			inner += printed(es, n)
		}
	}
	if inner == "" && es[i].Text == "" {
		return s + "/>"
	}
	return s + ">" + text.Escape(es[i].Text, false) + inner + "</" + es[i].Name + ">"
}

func holdPrint(t *testing.T, es []api.Elem, want string) {
	t.Helper()
	if s, err, n := xmltree.Print(es); s != want || err != api.OK || n != 0 {
		t.Errorf("Print(%.200v) = %.200q, %d, %d; want %.200q", es, s, err, n, want)
	}
}

// P5.3: the chapter's trees, and others.
func TestPrint(t *testing.T) {
	for _, c := range []struct {
		es   []api.Elem
		want string
	}{
		{[]api.Elem{{Depth: 1, Name: "a", Attrs: []api.Attr{attr("x", "<\n", 0)}, Text: "&"}, elem(2, "b", 0)}, "<a x=\"&lt;&#10;\">&amp;<b/></a>"},
		{[]api.Elem{elem(1, "a", 0)}, "<a/>"},
		{[]api.Elem{elem(1, "a", 77)}, "<a/>"},
		{[]api.Elem{{Depth: 1, Name: "a", Text: " "}}, "<a> </a>"},
		{[]api.Elem{{Depth: 1, Name: "a", Attrs: []api.Attr{attr("y", "", 5), attr("x", "", 3)}}}, "<a y=\"\" x=\"\"/>"},
		{[]api.Elem{{Depth: 1, Name: "a", Attrs: []api.Attr{attr("x", "\"'<>&\t", 0)}, Text: "\"'<>&\t"}}, "<a x=\"" + text.Escape("\"'<>&\t", true) + "\">" + text.Escape("\"'<>&\t", false) + "</a>"},
		{[]api.Elem{elem(1, "a", 0), elem(2, "b", 0), {Depth: 3, Name: "c", Text: "x"}, elem(2, "d", 0)}, "<a><b><c>x</c></b><d/></a>"},
		{[]api.Elem{{Depth: 1, Name: "a", Text: "1"}, {Depth: 2, Name: "b", Text: "2"}, elem(3, "c", 0), {Depth: 2, Name: "d", Text: "3"}}, "<a>1<b>2<c/></b><d>3</d></a>"},
		{[]api.Elem{elem(1, "a", 0), elem(2, "b", 0), elem(3, "c", 0), elem(4, "d", 0)}, "<a><b><c><d/></c></b></a>"},
		{[]api.Elem{elem(1, "a", 0), elem(2, "b", 0), elem(3, "c", 0), elem(2, "b", 0), elem(3, "c", 0), elem(3, "d", 0)}, "<a><b><c/></b><b><c/><d/></b></a>"},
	} {
		holdPrint(t, c.es, c.want)
		if p := printed(c.es, 0); p != c.want {
			t.Errorf("the test's own text is %q; want %q", p, c.want)
		}
	}
}

// P5.3: a text of MaxInput bytes, and of one more, with entities and without, in one element and in several.
func TestPrintSize(t *testing.T) {
	room := api.MaxInput - len("<a></a>")
	one := func(s string) []api.Elem { return []api.Elem{{Depth: 1, Name: "a", Text: s}} }
	holdPrint(t, one(strings.Repeat("x", room)), "<a>"+strings.Repeat("x", room)+"</a>")
	few := room / len("&lt;")
	rest := room % len("&lt;")
	escaped := strings.Repeat("<", few) + strings.Repeat("x", rest)
	holdPrint(t, one(escaped), "<a>"+strings.Repeat("&lt;", few)+strings.Repeat("x", rest)+"</a>")
	for _, es := range [][]api.Elem{
		one(strings.Repeat("x", room+1)),
		one(escaped + "x"),
		one(strings.Repeat("x", api.MaxInput)),
		one(strings.Repeat("<", api.MaxInput/2)),
		{{Depth: 1, Name: strings.Repeat("a", api.MaxInput)}},
		{{Depth: 1, Name: "a", Attrs: []api.Attr{attr("x", strings.Repeat("&", api.MaxInput/5), 0)}}},
		{{Depth: 1, Name: "a", Text: strings.Repeat("x", room-len("<b/>")+1)}, elem(2, "b", 0)},
		{elem(1, "a", 0), elem(2, "b", 0), {Depth: 3, Name: "c", Text: strings.Repeat("x", api.MaxInput)}, elem(2, "b", 0)},
	} {
		if s, err, n := xmltree.Print(es); s != "" || err != api.ErrXMLSize || n != len(es) {
			t.Errorf("Print of %d elements: %d bytes, error %d at %d", len(es), len(s), err, n)
		}
	}
	long := one(strings.Repeat("x", api.MaxInput))
	holdCheck(t, append(long, elem(1, "b", 0)), api.ErrTreeRoot, 1)
	holdCheck(t, long, api.OK, 0)
}

// randomTree makes trees with all that a tree may have, names of few letters so that they meet.
func randomTree(r *rand.Rand) []api.Elem {
	texts := []string{"", "", " ", "x", "\r\n\t", "<&>\"'", "]]>", "--", "é€\U0001f600", "&amp;"}
	var es []api.Elem
	depth := 0
	for n := 1 + r.Intn(30); len(es) < n; {
		depth = min(depth+1, api.MaxDepth)
		if len(es) > 0 {
			depth = 2 + r.Intn(depth-1)
		}
		e := api.Elem{Depth: depth, Name: string(rune('a' + r.Intn(3))), Text: texts[r.Intn(len(texts))], At: r.Intn(9)}
		for _, k := range r.Perm(5)[:r.Intn(4)] {
			e.Attrs = append(e.Attrs, attr(string(rune('v'+k)), texts[r.Intn(len(texts))], r.Intn(9)))
		}
		es = append(es, e)
	}
	return es
}

// P5.3, P5.4: what is printed is what the chapter says, and is read as the same tree, which prints to the same text.
func TestPrintAndParse(t *testing.T) {
	r := rand.New(rand.NewSource(5))
	for range 4000 {
		es := randomTree(r)
		s, err, n := xmltree.Print(es)
		if err != api.OK || n != 0 || s != printed(es, 0) {
			t.Fatalf("Print(%+v) = %q, %d, %d; want %q", es, s, err, n, printed(es, 0))
		}
		back, err, at := xmltree.Parse(s)
		if err != api.OK || at != 0 || !xmltree.Same(back, es) {
			t.Fatalf("Parse(%q) = %+v, %d, %d; want %+v", s, back, err, at, es)
		}
		if again, err, _ := xmltree.Print(back); again != s || err != api.OK {
			t.Fatalf("%q prints as %q", s, again)
		}
	}
}

// P5.4: what is read of a text prints to one that is read as the same tree; one whose print would be too long doesn't print.
func TestParseAndPrint(t *testing.T) {
	for _, s := range []string{
		"<a x='1'>b<c/>d<!--e--></a>", "<?xml version='1.0'?> <a\n>&#13;<b ></b>\r\n</a> ", "<a x='&#9;\n' y=\"&apos;'\"/>", nested(16),
		"<a" + attrs(24) + "/>", "<a>" + strings.Repeat("<b/>", api.MaxElems-1) + "</a>", "<a>" + strings.Repeat("é", 500000) + "</a>",
	} {
		es, err, _ := xmltree.Parse(s)
		if err != api.OK {
			t.Fatalf("Parse(%.90q): error %d", s, err)
		}
		holdCheck(t, es, api.OK, 0)
		p, err, _ := xmltree.Print(es)
		back, backErr, _ := xmltree.Parse(p)
		if err != api.OK || backErr != api.OK || !xmltree.Same(es, back) {
			t.Errorf("%.90q prints as %.90q: errors %d and %d", s, p, err, backErr)
		}
	}
	es, err, _ := xmltree.Parse("<a>" + strings.Repeat(">", api.MaxInput/2) + "</a>")
	if err != api.OK {
		t.Fatal(err)
	}
	if s, err, n := xmltree.Print(es); s != "" || err != api.ErrXMLSize || n != 1 {
		t.Errorf("%d bytes, error %d at %d", len(s), err, n)
	}
}

func depths(ds ...int) []api.Elem {
	var es []api.Elem
	for _, d := range ds {
		es = append(es, api.Elem{Depth: d})
	}
	return es
}

// P5.5: the chapter's lists, and others, of trees and of no trees.
func TestKids(t *testing.T) {
	least, most := math.MinInt, math.MaxInt
	for _, c := range []struct {
		es   []api.Elem
		i    int
		want []int
	}{
		{depths(1, 2, 3, 2), 0, []int{1, 3}},
		{depths(1, 2, 3, 2), 1, []int{2}},
		{depths(1, 2, 3, 2), 2, nil},
		{depths(1, 2, 3, 2), 3, nil},
		{depths(1, 2, 3, 2), 4, nil},
		{depths(1, 2, 3, 2), 9, nil},
		{depths(1, 2, 3, 2), -1, nil},
		{depths(1, 2, 3, 2), most, nil},
		{depths(1, 2, 3, 2), least, nil},
		{depths(1, 3, 2), 0, []int{2}},
		{depths(1, 3, 2), 1, nil},
		{depths(1, 2, 1, 2), 0, []int{1}},
		{depths(1, 2, 1, 2), 2, []int{3}},
		{depths(1, 2, 0, 2), 0, []int{1}},
		{depths(1, 1, 2), 0, nil},
		{depths(2, 3, 1, 3), 0, []int{1}},
		{depths(-3, -2, 5, -2, -3, -2), 0, []int{1, 3}},
		{depths(least, least+1, most, least+1, least), 0, []int{1, 3}},
		{depths(most, most, least), 0, nil},
		{depths(most, least, most), 0, nil},
		{depths(most-1, most, most), 0, []int{1, 2}},
		{depths(40, 41, 60, 41, 40), 0, []int{1, 3}},
		{nil, 0, nil},
		{[]api.Elem{}, 0, nil},
		{nil, -1, nil},
	} {
		if got := slices.Collect(xmltree.Kids(c.es, c.i)); !slices.Equal(got, c.want) {
			t.Errorf("Kids(%v, %d) = %v; want %v", c.es, c.i, got, c.want)
		}
	}
}

// P5.5: every list of up to six Depths, at every place, against the chapter's words taken place by place.
func TestKidsOfEveryList(t *testing.T) {
	var hold func(es []api.Elem)
	hold = func(es []api.Elem) {
		for i := range es {
			var want []int
			for n := i + 1; n < len(es); n++ {
				inside := !slices.ContainsFunc(es[i+1:n+1], func(e api.Elem) bool { return e.Depth <= es[i].Depth })
				if inside && es[n].Depth == es[i].Depth+1 {
					want = append(want, n)
				}
			}
			if got := slices.Collect(xmltree.Kids(es, i)); !slices.Equal(got, want) {
				t.Fatalf("Kids(%v, %d) = %v; want %v", es, i, got, want)
			}
		}
		if len(es) < 6 {
			for d := range 5 {
				hold(append(slices.Clone(es), api.Elem{Depth: d}))
			}
		}
	}
	hold(nil)
}

// P5.5, P0.1: Kids goes by what the list was when it was asked, and may be stopped, gone through again, and inside itself.
func TestKidsIterator(t *testing.T) {
	es := depths(1, 2, 3, 2, 2)
	seq := xmltree.Kids(es, 0)
	es[0].Depth, es[1].Depth, es[3].Depth = 5, 7, 1
	for range 3 {
		if got := slices.Collect(seq); !slices.Equal(got, []int{1, 3, 4}) {
			t.Errorf("%v", got)
		}
	}
	for stop := range 3 {
		var got []int
		for k := range seq {
			got = append(got, k)
			if len(got) > stop {
				break
			}
		}
		if !slices.Equal(got, []int{1, 3, 4}[:stop+1]) {
			t.Errorf("stopped at %d: %v", stop, got)
		}
	}
	var pairs []int
	for k := range seq {
		for l := range seq {
			pairs = append(pairs, 10*k+l)
		}
	}
	if !slices.Equal(pairs, []int{11, 13, 14, 31, 33, 34, 41, 43, 44}) {
		t.Errorf("%v", pairs)
	}
}

// P5.6: each field that Same looks at, and those that it doesn't.
func TestSame(t *testing.T) {
	full := func() []api.Elem {
		return []api.Elem{
			{Depth: 1, Name: "a", Attrs: []api.Attr{attr("x", "1", 3), attr("y", "2", 9)}, Text: "t", At: 5},
			{Depth: 2, Name: "b", Attrs: []api.Attr{attr("z", "", 30)}, At: 20},
		}
	}
	for _, c := range []struct {
		change func(es []api.Elem) []api.Elem
		same   bool
	}{
		{func(es []api.Elem) []api.Elem { return es }, true},
		{func(es []api.Elem) []api.Elem { es[0].At = 9; return es }, true},
		{func(es []api.Elem) []api.Elem { es[1].At = -1; es[1].Attrs[0].At = 7; es[0].Attrs[1].At = 0; return es }, true},
		{func(es []api.Elem) []api.Elem { return slices.Grow(es, 9) }, true},
		{func(es []api.Elem) []api.Elem { return nil }, false},
		{func(es []api.Elem) []api.Elem { return es[:1] }, false},
		{func(es []api.Elem) []api.Elem { return append(es, api.Elem{}) }, false},
		{func(es []api.Elem) []api.Elem { es[0], es[1] = es[1], es[0]; return es }, false},
		{func(es []api.Elem) []api.Elem { es[1].Depth = 3; return es }, false},
		{func(es []api.Elem) []api.Elem { es[0].Name = "A"; return es }, false},
		{func(es []api.Elem) []api.Elem { es[1].Name = ""; return es }, false},
		{func(es []api.Elem) []api.Elem { es[0].Text = ""; return es }, false},
		{func(es []api.Elem) []api.Elem { es[1].Text = " "; return es }, false},
		{func(es []api.Elem) []api.Elem { es[0].Attrs[0].Name = "w"; return es }, false},
		{func(es []api.Elem) []api.Elem { es[0].Attrs[1].Value = "1"; return es }, false},
		{func(es []api.Elem) []api.Elem { es[1].Attrs[0].Value = "\x00"; return es }, false},
		{func(es []api.Elem) []api.Elem { slices.Reverse(es[0].Attrs); return es }, false},
		{func(es []api.Elem) []api.Elem { es[0].Attrs = es[0].Attrs[:1]; return es }, false},
		{func(es []api.Elem) []api.Elem { es[1].Attrs = nil; return es }, false},
		{func(es []api.Elem) []api.Elem { es[1].Attrs = append(es[1].Attrs, api.Attr{}); return es }, false},
	} {
		changed := c.change(full())
		if xmltree.Same(full(), changed) != c.same || xmltree.Same(changed, full()) != c.same {
			t.Errorf("Same with %+v isn't %v", changed, c.same)
		}
	}
	wild := []api.Elem{{Depth: -4, Name: "<", Text: "\xff", Attrs: []api.Attr{{}, {}}}, {}}
	other := []api.Elem{{Depth: -4, Name: "<", Text: "\xfe", Attrs: []api.Attr{{}, {}}}, {}}
	if !xmltree.Same(nil, nil) || !xmltree.Same(nil, []api.Elem{}) || !xmltree.Same(wild, slices.Clone(wild)) || xmltree.Same(wild, other) {
		t.Error("lists that are no trees")
	}
	if !xmltree.Same([]api.Elem{{Attrs: nil}}, []api.Elem{{Attrs: []api.Attr{}}}) {
		t.Error("no attributes and none aren't the same")
	}
}

func deepCopy(es []api.Elem) []api.Elem {
	out := slices.Clone(es)
	for n := range out {
		out[n].Attrs = slices.Clone(out[n].Attrs)
	}
	return out
}

// P0.1: nothing that is handed in changes, spare room too.
func TestArgumentsStay(t *testing.T) {
	spare := make([]api.Elem, 0, 8)
	spare = append(spare, api.Elem{Depth: 1, Name: "a", Text: "t", Attrs: append(make([]api.Attr, 0, 4), attr("x", "1", 2))}, elem(2, "b", 4))
	wholeAttrs := func(es []api.Elem) []api.Attr { return es[0].Attrs[:cap(es[0].Attrs)] }
	elems, as := deepCopy(spare[:cap(spare)]), slices.Clone(wholeAttrs(spare))
	xmltree.Check(spare)
	s, _, _ := xmltree.Print(spare)
	xmltree.Same(spare, spare[:1])
	for range xmltree.Kids(spare, 0) {
	}
	xmltree.Parse(s)
	if !equal(spare[:cap(spare)], elems) || !slices.Equal(wholeAttrs(spare), as) {
		t.Error("a list that was handed in has changed")
	}
}

// P0.1: what Parse answers is new memory, of which no two lists share any, spare room too.
func TestAnswersAreNew(t *testing.T) {
	const s = "<a x='1' y='2' z='3'><b x='1' y='2' z='3'/><c x='1'/><c x='1'>t</c></a>"
	one, _, _ := xmltree.Parse(s)
	two, _, _ := xmltree.Parse(s)
	want := deepCopy(two)
	fill := func(as []api.Attr) {
		as = as[:cap(as)]
		for n := range as {
			as[n] = attr("?", "?", -1)
		}
	}
	for n := range one {
		fill(one[n].Attrs)
		for m := n + 1; m < len(one); m++ {
			if !slices.Equal(one[m].Attrs, want[m].Attrs) {
				t.Errorf("the attributes of element %d and %d share memory", n, m)
			}
		}
	}
	whole := one[:cap(one)]
	for n := range whole {
		whole[n] = elem(-1, "?", -1)
	}
	if !reflect.DeepEqual(two, want) {
		t.Error("two answers share memory")
	}
	if three, _, _ := xmltree.Parse(s); !equal(three, want) {
		t.Error("what was answered is kept")
	}
}
