package value_test

import (
	"fmt"
	"math"
	"slices"
	"strings"
	"testing"

	"stencil/api"
	"stencil/prim"
	"stencil/value"
)

// wide has groups inside groups, groups without anything, and data everywhere.
func wide(t testing.TB) api.Form {
	return made(t, 0, field("a", one(api.Uint8)), field("b", array(api.Int8, 2)), constant("k", one(api.Uint8)),
		plain("g", api.Uint8, field("a", one(api.Uint8)),
			plain("h", api.Uint16, field("y", one(api.Uint8)), plain("e", api.Uint8)),
			plain("i", api.Uint32, data("z", api.Uint8)),
			data("d", api.Uint8)),
		plain("h", api.Uint8), data("d", api.Uint16), data("e", api.Uint32))
}

const wideTree = "M a=1 b=2,3 g{ - a=4 h{ - y=5 e{ - - } - y=6 e{ } } i{ - z$z } d$ - a=7 h{ } i{ } d$dd } h{ - - } d$ e$eee"

// P16.1: a list that is cut short at every node, without each node, and with each node once more.
func TestCutShort(t *testing.T) {
	f, m := wide(t), tree(wideTree)
	wantCheck(t, "whole", f, m, ok, 0)
	for i := range m {
		wantCheck(t, fmt.Sprint("cut at ", i), f, m[:i], api.ErrTree, i)
	}
	// An entry may be away with what it holds, or come once more: the next node tells.
	entries := func(i int) bool { return m[i].Kind == api.ValEntry }
	for i := range m {
		// Without an entry that holds nothing the tree is another one.
		if entries(i) && (i+1 == len(m) || m[i+1].Depth <= m[i].Depth) {
			wantCheck(t, fmt.Sprint("without ", i), f, without(m, i), ok, 0)
			wantCheck(t, fmt.Sprint(i, " twice"), f, put(m, i, m[i]), ok, 0)
			continue
		}
		at := i
		if i == 15 || i == 24 {
			at++ // a group's: its first entry may be one of the group ahead of it
		}
		wantCheck(t, fmt.Sprint("without ", i), f, without(m, i), api.ErrTree, at)
		wantCheck(t, fmt.Sprint(i, " twice"), f, put(m, i, m[i]), api.ErrTree, i+1)
		wantCheck(t, "one node too many", f, append(copyOf(m), m[i]), api.ErrTree, len(m))
	}
	for _, v := range []api.Val{{}, {Depth: 1, Kind: api.ValEntry}, {Depth: 3, Kind: api.ValEntry}, {Depth: 2, Kind: api.ValGroup, Name: "h"}} {
		wantCheck(t, "one node too many", f, append(copyOf(m), v), api.ErrTree, len(m))
	}
}

// P16.1: each node with another Kind, another Depth, another Name; Words at what is no field, Text at what is no data.
func TestNodesOtherwise(t *testing.T) {
	f, m := wide(t), tree(wideTree)
	for i, node := range m {
		refuse := func(what string, do func(v *api.Val)) {
			t.Helper()
			wantCheck(t, fmt.Sprint(what, " at ", i), f, with(m, i, do), api.ErrTree, i)
		}
		for _, k := range []api.ValKind{math.MinInt, math.MinInt + 1, -1, 0, 1, 2, 3, 4, 5, 6, math.MaxInt - 1, math.MaxInt} {
			if k != node.Kind {
				refuse(fmt.Sprint("Kind ", k), func(v *api.Val) { v.Kind = k })
			}
		}
		for _, d := range []int{math.MinInt, -1, 0, 1, 2, 3, 4, 5, 6, 7, 8, math.MaxInt} {
			// An entry may be one of another group that is open: what it holds is not.
			if other, is := map[int]int{10: 5, 11: 5, 12: 7}[i]; is && d == other {
				wantCheck(t, "an entry of another group", f, with(m, i, func(v *api.Val) { v.Depth = d }), api.ErrTree, i+1)
			} else if d != node.Depth {
				refuse(fmt.Sprint("Depth ", d), func(v *api.Val) { v.Depth = d })
			}
		}
		for _, name := range []string{"", "M", "a", "b", "k", "g", "h", "d", "e", "x", node.Name + " ", node.Name + "x", strings.ToUpper(node.Name) + "_"} {
			if name != node.Name {
				refuse("Name "+name, func(v *api.Val) { v.Name = name })
			}
		}
		if node.Kind != api.ValField {
			refuse("Words", func(v *api.Val) { v.Words = []uint64{0} })
			wantCheck(t, "no words", f, with(m, i, func(v *api.Val) { v.Words = []uint64{} }), ok, 0)
		} else {
			wantCheck(t, "no words", f, with(m, i, func(v *api.Val) { v.Words = nil }), api.ErrWords, i)
			wantCheck(t, "no words", f, with(m, i, func(v *api.Val) { v.Words = []uint64{} }), api.ErrWords, i)
		}
		if node.Kind != api.ValData {
			refuse("Text", func(v *api.Val) { v.Text = "\x00" })
		}
	}
	// Nodes that stand side by side, turned.
	for i := range m[1:] {
		if l := copyOf(m); !sameNodes(l[i:i+1], l[i+1:i+2]) {
			l[i], l[i+1] = l[i+1], l[i]
			if e, at := value.Check(f, l); e != api.ErrTree || at < i || at > i+1 {
				t.Errorf("P16.1: %d and the next turned: %d, %d", i, e, at)
			}
		}
	}
}

// P16.1: which error comes first where several hold: at the first node that is wrong, the first that the chapter names.
func TestFirstError(t *testing.T) {
	f := made(t, 0, field("a", one(api.Uint8)), field("b", array(api.Uint8, 2)), plain("g", api.Uint8, data("e", api.Uint8)), data("d", api.Uint8))
	long := strings.Repeat("x", 255)
	m := tree("M a=1 b=1,2 g{ - e$ } d$")
	bad := []func(v *api.Val){
		func(v *api.Val) { v.Depth++ },
		func(v *api.Val) { v.Words = numbers("256") },
		func(v *api.Val) { v.Words = numbers("1,2,3") },
		func(v *api.Val) { v.Text = long },
	}
	want := func(v api.Val, which int) api.Errno {
		switch {
		case which == 1 && v.Name == "a":
			return api.ErrFit
		case which == 1 && v.Name == "b", which == 2 && v.Kind == api.ValField:
			return api.ErrWords
		case which == 3 && v.Kind == api.ValData:
			return api.ErrData
		}
		return api.ErrTree
	}
	// At one node.
	for i, v := range m {
		for which, do := range bad {
			wantCheck(t, fmt.Sprint(which, " at ", i), f, with(m, i, do), want(v, which), i)
		}
		wantCheck(t, "all at once", f, with(m, i, func(v *api.Val) { each(bad, func(do func(*api.Val)) { do(v) }) }), api.ErrTree, i)
		// And at all behind it.
		for which, do := range bad {
			l := with(m, i, do)
			for k := i + 1; k < len(l); k++ {
				each(bad, func(do func(*api.Val)) { do(&l[k]) })
			}
			wantCheck(t, fmt.Sprint(which, " at ", i, " and all behind"), f, l, want(v, which), i)
			wantCheck(t, "and cut short", f, l[:i+1], want(v, which), i)
		}
	}
	wantCheck(t, "ErrWords ahead of ErrFit", f, with(m, 2, func(v *api.Val) { v.Words = numbers("256,256,256") }), api.ErrWords, 2)
	wantCheck(t, "ErrFit ahead of what is missing", f, with(m[:3], 2, func(v *api.Val) { v.Words = numbers("1,256") }), api.ErrFit, 2)
}

// P16.1, P16.6: data of just the greatest length and of one more, by each type of its length.
func TestDataLengths(t *testing.T) {
	for _, x := range []struct {
		length api.Prim
		most   int
	}{{api.Uint8, 254}, {api.Uint16, 65534}, {api.Uint32, api.MaxMessage - 8 - 4}} {
		f := made(t, 0, data("d", x.length))
		m := tree("M d$")
		for _, n := range []int{0, 1, 255, 256, x.most - 1, x.most, x.most + 1, x.most + 2, 65535, 65536, 2 * api.MaxMessage} {
			m[1].Text = strings.Repeat("\xff", n)
			c := []api.Call{{Kind: api.CallData, Name: "d", Text: m[1].Text}}
			if n <= x.most {
				wantCheck(t, fmt.Sprint(x.length, " of ", n), f, m, ok, 0)
				got, e := value.Tree(f, c)
				wantNodes(t, "P16.6: data", got, e, m)
				if size, _ := value.Size(f, m); size != 8+prim.Size(x.length)+n {
					t.Errorf("P16.4: Size = %d", size)
				}
				continue
			}
			err := api.ErrData
			if x.length == api.Uint32 {
				err = api.ErrLong
			}
			wantCheck(t, fmt.Sprint(x.length, " of ", n), f, m, err, 1)
			refuseTree(t, f, c, err)
		}
	}
}

// entries are so many nodes of entries that hold nothing, in a group of the message.
func entries(n int) []api.Val {
	return slices.Repeat([]api.Val{{Depth: 3, Kind: api.ValEntry}}, n)
}

// P16.1, P16.6: entries up to what the group's B tells, and one more.
func TestEntriesOfAGroup(t *testing.T) {
	for _, x := range []struct {
		count api.Prim
		most  int
	}{{api.Uint8, 254}, {api.Uint16, 65534}, {api.Uint32, api.MaxEntries}} {
		f := made(t, 0, plain("g", x.count))
		for _, n := range []int{0, 1, x.most - 1, x.most, x.most + 1, x.most + 3} {
			m := append(tree("M g{ }"), entries(n)...)
			cs := append([]api.Call{{Kind: api.CallGroup, Name: "g", Count: n}}, slices.Repeat([]api.Call{{Kind: api.CallNext}}, n)...)
			if n <= x.most {
				wantCheck(t, fmt.Sprint(x.count, " of ", n), f, m, ok, 0)
				got, e := value.Tree(f, cs)
				wantNodes(t, "P16.6: entries", got, e, m)
				if got, e := value.Calls(f, m); e != ok || !sameCalls(got, cs) {
					t.Errorf("P16.5: Calls of %d entries: %d\n%s", n, e, showCalls(got))
				}
				continue
			}
			wantCheck(t, fmt.Sprint(x.count, " of ", n), f, m, api.ErrEntries, 2+x.most)
			err := api.ErrCount
			if x.count == api.Uint32 {
				err = api.ErrEntries
			}
			refuseTree(t, f, cs[:1], err)
			refuseTree(t, f, cs, err)
		}
	}
	// Each entry of the outer group has a count of its own.
	f := made(t, 0, plain("g", api.Uint8, plain("h", api.Uint8)))
	m := tree("M g{ }")
	for range 3 {
		m = append(m, tree("M g{ - h{ }")[2:]...)
		m = append(m, slices.Repeat([]api.Val{{Depth: 5, Kind: api.ValEntry}}, 254)...)
	}
	wantCheck(t, "254 in each of three", f, m, ok, 0)
	wantCheck(t, "255 in the last", f, append(m, m[len(m)-1]), api.ErrEntries, len(m))
	wantCheck(t, "255 in the first", f, slices.Insert(m, 4+254, m[4]), api.ErrEntries, 4+254)
}

// P16.1, P16.6: entries up to MaxEntries and one more, over several groups, one inside the other too.
func TestEntriesOfAll(t *testing.T) {
	f := made(t, 0, plain("g", api.Uint16, plain("h", api.Uint16)), plain("i", api.Uint32), plain("j", api.Uint8))
	some := func(outer, each, other, last int) ([]api.Val, []api.Call) {
		m := tree("M g{ }")
		cs := []api.Call{{Kind: api.CallGroup, Name: "g", Count: outer}}
		for range outer {
			m = append(m, tree("M g{ - h{ }")[2:]...)
			m = append(m, slices.Repeat([]api.Val{{Depth: 5, Kind: api.ValEntry}}, each)...)
			cs = append(cs, api.Call{Kind: api.CallNext}, api.Call{Kind: api.CallGroup, Name: "h", Count: each})
			cs = append(cs, slices.Repeat([]api.Call{{Kind: api.CallNext}}, each)...)
		}
		for _, x := range []struct {
			name string
			n    int
		}{{"i", other}, {"j", last}} {
			m = append(append(m, api.Val{Depth: 2, Kind: api.ValGroup, Name: x.name}), entries(x.n)...)
			cs = append(cs, api.Call{Kind: api.CallGroup, Name: x.name, Count: x.n})
			cs = append(cs, slices.Repeat([]api.Call{{Kind: api.CallNext}}, x.n)...)
		}
		return m, cs
	}
	for _, x := range []struct{ outer, each, other, last, beyond int }{
		{2, 32767, 0, 0, 0}, {2, 32760, 10, 4, 0}, {1, 0, 65534, 1, 0}, {0, 0, 65536, 0, 0}, {0, 0, 65530, 6, 0},
		{2, 32767, 0, 1, 1}, {2, 32767, 1, 0, 1}, {2, 32760, 10, 5, 1}, {1, 0, 65534, 2, 1}, {0, 0, 65537, 0, 1}, {0, 0, 65530, 8, 2},
	} {
		m, cs := some(x.outer, x.each, x.other, x.last)
		if x.beyond == 0 {
			wantCheck(t, fmt.Sprint(x), f, m, ok, 0)
			got, e := value.Tree(f, cs)
			wantNodes(t, "P16.6: entries", got, e, m)
			continue
		}
		at, n := 0, 0
		for i, v := range m {
			if v.Kind == api.ValEntry {
				if n++; n == api.MaxEntries+1 {
					at = i
				}
			}
		}
		wantCheck(t, fmt.Sprint(x), f, m, api.ErrEntries, at)
		refuseTree(t, f, cs, api.ErrEntries)
	}
	// One entry more inside the last entry of a group, of which the outer one's are all there.
	m, cs := some(2, 32767, 0, 0)
	at := slices.IndexFunc(m, func(v api.Val) bool { return v.Name == "i" })
	wantCheck(t, "one more inside", f, slices.Insert(m, at, m[at-1]), api.ErrEntries, at)
	k := 3 + 32767 + 1
	if cs[k].Name != "h" || cs[k].Count != 32767 {
		t.Fatalf("the test's calls: %+v", cs[k])
	}
	cs[k].Count++
	refuseTree(t, f, cs, api.ErrEntries)
}

// P16.1, P16.6: what weighs just MaxMessage and one more: at a group, an entry and data. A message alone never weighs too much.
func TestWeighs(t *testing.T) {
	top := api.MaxMessage
	room := field("a", array(api.Uint64, 500))
	a := tree("M a=" + strings.Repeat("1,", 500))[1]
	// A message's block is 4000 bytes long, and weighs 5000; an entry's takes one byte, and weighs 1000.
	heavy := func(bits ...bit) api.Form { return madeOf(t, 0, []change{full(5000)}, append([]bit{room}, bits...)...) }
	entry := []change{full(1000)}
	f := heavy(group("g", api.Uint16, 0, entry, field("x", one(api.Uint8))), data("d", api.Uint32))
	body := func(n, text int) []api.Val {
		m := []api.Val{{Depth: 1, Name: "M"}, a, {Depth: 2, Kind: api.ValGroup, Name: "g"}}
		for range n {
			m = append(m, api.Val{Depth: 3, Kind: api.ValEntry}, api.Val{Depth: 4, Kind: api.ValField, Name: "x", Words: []uint64{1}})
		}
		return append(m, api.Val{Depth: 2, Kind: api.ValData, Name: "d", Text: strings.Repeat("x", text)})
	}
	said := func(n, text int) []api.Call {
		cs := []api.Call{{Name: "a", Words: a.Words}, {Kind: api.CallGroup, Name: "g", Count: n}}
		for range n {
			cs = append(cs, api.Call{Kind: api.CallNext}, api.Call{Name: "x", Words: []uint64{1}})
		}
		return append(cs, api.Call{Kind: api.CallData, Name: "d", Text: strings.Repeat("x", text)})
	}
	head := 8 + 5000 + 4
	for _, n := range []int{0, 1, 500, (top - head - 4) / 1000} {
		text := top - head - 1000*n - 4
		wantCheck(t, fmt.Sprint(n, " entries and data"), f, body(n, text), ok, 0)
		got, e := value.Tree(f, said(n, text))
		wantNodes(t, "P16.6: just what may be", got, e, body(n, text))
		wantCheck(t, fmt.Sprint(n, " entries and a byte more"), f, body(n, text+1), api.ErrLong, 3+2*n)
		refuseTree(t, f, said(n, text+1), api.ErrLong)
		if size, e := value.Size(f, body(n, text)); e != ok || size != 8+4000+4+n+4+text {
			t.Errorf("P16.4: Size = %d, %d", size, e)
		}
	}
	most := (top - head) / 1000
	wantCheck(t, "an entry too many", f, body(most+1, 0), api.ErrLong, 3+2*most)
	wantCheck(t, "more than one", f, body(most+9, 0), api.ErrLong, 3+2*most)
	refuseTree(t, f, said(most+1, 0), api.ErrLong)
	// Of calls all entries weigh at once, ahead of the first; a wrong call behind it is never come to.
	refuseTree(t, f, said(most+1, 0)[:2], api.ErrLong)
	refuseTree(t, f, append(said(most+1, 0)[:2], api.Call{Kind: 9}), api.ErrLong)
	refuseTree(t, f, said(65534, 0)[:2], api.ErrLong)
	refuseTree(t, f, append(said(most, 0)[:2], api.Call{Kind: 9}), api.ErrOrder)
	refuseTree(t, f, said(most, 0)[:2], api.ErrTree)

	// Just what may be, and one byte more, at an entry: behind it nothing may come that weighs.
	for _, x := range []struct {
		block int
		err   api.Errno
	}{{52000, ok}, {52001, api.ErrLong}} {
		f := madeOf(t, 0, []change{full(top - 8 - 3 - 20*52000)}, group("g", api.Uint8, 0, []change{full(x.block)}), data("d", api.Uint8))
		m := append(tree("M g{ }"), entries(20)...)
		err, at := api.ErrTree, 22
		if x.err != ok {
			err, at = x.err, 21
		}
		wantCheck(t, fmt.Sprint("entries of ", x.block), f, m, err, at)
		wantCheck(t, "and data", f, append(m, api.Val{Depth: 2, Kind: api.ValData, Name: "d"}), api.ErrLong, at)
		cs := append([]api.Call{{Kind: api.CallGroup, Name: "g", Count: 20}}, slices.Repeat([]api.Call{{Kind: api.CallNext}}, 20)...)
		refuseTree(t, f, cs[:1], err)
		refuseTree(t, f, cs, err)
		refuseTree(t, f, append(cs, api.Call{Kind: api.CallData, Name: "d"}), api.ErrLong)
	}
}

// weighty are groups whose dimensions are long, and the form of them.
func weighty(t testing.TB, head, block int, sizes ...int) api.Form {
	var bits []bit
	for i, n := range sizes {
		bits = append(bits, group(fmt.Sprint("g", i), api.Uint8, 0, []change{size(n)}))
	}
	f := madeOf(t, 0, nil, bits...)
	f.Head.Size, f.Tokens[0].Full = head, block
	f.Head.Block.Prim, f.Head.Template.Offset, f.Head.Schema.Offset, f.Head.Version.Offset = api.Uint32, 4, 6, 8
	wantForm(t, f)
	return f
}

// P16.1, P16.2, P16.6: dimensions that weigh just as much as may be, and one byte more: at the group's node; Nulls has none.
func TestNullsWeigh(t *testing.T) {
	most := api.MaxBlock
	sizes := slices.Repeat([]int{most}, 14)
	left := api.MaxMessage - 16*most
	if left != 16 {
		t.Fatal("the test's numbers")
	}
	for _, x := range []struct {
		head, block int
		last        []int
		err         api.Errno
		at          int
	}{
		{most, most, nil, ok, 0},
		{most, most, []int{16}, ok, 0},
		{most, most, []int{17}, api.ErrLong, 15},
		{most, most, []int{10, 6}, ok, 0},
		{most, most, []int{10, 7}, api.ErrLong, 16},
		{most, most, []int{10, 7, 3}, api.ErrLong, 16},
		{most - 1, most, []int{17}, ok, 0},
		{most, most - 1, []int{17}, ok, 0},
		{most - 1, most, []int{18}, api.ErrLong, 15},
		{most, most - 1, []int{18}, api.ErrLong, 15},
		{10, 0, nil, ok, 0},
		{10, 0, []int{most, most, 6}, ok, 0},
		{10, 0, []int{most, most, 7}, api.ErrLong, 17},
		{most, most, []int{most}, api.ErrLong, 15},
	} {
		all := slices.Concat(sizes, x.last)
		f := weighty(t, x.head, x.block, all...)
		m := tree("M")
		var cs []api.Call
		for i := range all {
			m = append(m, api.Val{Depth: 2, Kind: api.ValGroup, Name: fmt.Sprint("g", i)})
			cs = append(cs, api.Call{Kind: api.CallGroup, Name: fmt.Sprint("g", i)})
		}
		wantCheck(t, fmt.Sprint(x), f, m, x.err, x.at)
		if x.err == ok {
			got, e := value.Nulls(f)
			wantNodes(t, "P16.2: Nulls", got, e, m)
			got, e = value.Tree(f, cs)
			wantNodes(t, "P16.6: Tree", got, e, m)
			continue
		}
		got, e := value.Nulls(f)
		wantErr(t, "P16.2: Nulls", got, e, api.ErrLong)
		refuseTree(t, f, cs, api.ErrLong)
		// At the call that goes beyond, not at its end, nor ahead of it.
		refuseTree(t, f, cs[:x.at], api.ErrLong)
		refuseTree(t, f, cs[:x.at-1], api.ErrTree)
		refuseTree(t, f, append(slices.Clone(cs[:x.at-1]), api.Call{Kind: -1}), api.ErrOrder)
		// What is wrong ahead of it comes first.
		wantCheck(t, "no tree ahead of it", f, with(m, x.at-1, func(v *api.Val) { v.Depth = 9 }), api.ErrTree, x.at-1)
		wantCheck(t, "no tree there", f, with(m, x.at, func(v *api.Val) { v.Text = "x" }), api.ErrTree, x.at)
		wantCheck(t, "cut short", f, m[:x.at], api.ErrTree, x.at)
	}
}

// P16.1, P16.6: at one node ErrData and ErrEntries come ahead of ErrLong; ErrTree ahead of them.
func TestLongComesLast(t *testing.T) {
	// 254 entries weigh just less than may be; one more is too many, and weighs too much.
	f := made(t, 0, group("g", api.Uint8, 0, []change{full(4128)}), data("d", api.Uint8))
	m := append(tree("M g{ }"), entries(255)...)
	if left := api.MaxMessage - 8 - 3 - 254*4128; left < 1 || left >= 255 {
		t.Fatalf("the test's numbers: %d", left)
	}
	d := api.Val{Depth: 2, Kind: api.ValData, Name: "d"}
	wantCheck(t, "254", f, append(slices.Clone(m[:2+254]), d), ok, 0)
	wantCheck(t, "255", f, m, api.ErrEntries, 2+254)
	wantCheck(t, "255, the last with a name", f, with(m, 2+254, func(v *api.Val) { v.Name = "g" }), api.ErrTree, 2+254)
	refuseTree(t, f, []api.Call{{Kind: api.CallGroup, Name: "g", Count: 255}}, api.ErrCount)
	refuseTree(t, f, []api.Call{{Kind: api.CallGroup, Name: "g", Count: 1 << 40}}, api.ErrCount)
	// And of data: what is left is less than a text that is too long by itself.
	for _, x := range []struct {
		n   int
		err api.Errno
	}{{0, ok}, {52, ok}, {53, api.ErrLong}, {254, api.ErrLong}, {255, api.ErrData}, {300, api.ErrData}} {
		d.Text = strings.Repeat("x", x.n)
		at := 0
		if x.err != ok {
			at = 2 + 254
		}
		wantCheck(t, fmt.Sprint("a text of ", x.n), f, append(slices.Clone(m[:2+254]), d), x.err, at)
		cs := append([]api.Call{{Kind: api.CallGroup, Name: "g", Count: 254}}, slices.Repeat([]api.Call{{Kind: api.CallNext}}, 254)...)
		cs = append(cs, api.Call{Kind: api.CallData, Name: "d", Text: d.Text})
		if x.err != ok {
			refuseTree(t, f, cs, x.err)
		} else if got, e := value.Tree(f, cs); e != ok || len(got) != 2+254+1 {
			t.Errorf("P16.6: Tree: %d nodes, %d", len(got), e)
		}
	}
	// MaxEntries and MaxMessage at the same entry.
	for block, err := range map[int]api.Errno{0: ok, 1: api.ErrLong} {
		f = madeOf(t, 0, []change{full(block)}, group("g", api.Uint32, 0, []change{full(15)}), group("h", api.Uint8, 0, []change{full(65534)}))
		m = append(tree("M g{ }"), entries(65536)...)
		m = append(append(m, api.Val{Depth: 2, Kind: api.ValGroup, Name: "h"}), entries(1)...)
		wantCheck(t, "one entry more, and too heavy", f, m, api.ErrEntries, len(m)-1)
		m = slices.Delete(m, 2, 3)
		at := 0
		if err != ok {
			at = len(m) - 1
		}
		wantCheck(t, fmt.Sprint("65535 entries, and one of 65534 bytes, and ", block), f, m, err, at)
	}
}

// P16.1: groups in one another as deep as may be.
func TestNested(t *testing.T) {
	bits := []bit{}
	for i := range api.MaxNest {
		bits = []bit{plain("g", api.Uint8, append([]bit{field("x", one(api.Uint8))}, bits...)...)}
		if i == 0 {
			bits = []bit{plain("g", api.Uint8, field("x", one(api.Uint8)), data("d", api.Uint8))}
		}
	}
	f := made(t, 0, bits...)
	said := "M " + strings.Repeat("g{ - x=1 ", api.MaxNest) + "d$q"
	m := tree(said)
	wantCheck(t, "as deep as may be", f, m, ok, 0)
	if last := m[len(m)-1]; last.Depth != 2+2*api.MaxNest {
		t.Errorf("the test's tree: %+v", last)
	}
	if n, e := value.Size(f, m); e != ok || n != 8+api.MaxNest*(3+1)+2 {
		t.Errorf("P16.4: Size = %d, %d", n, e)
	}
	cs, e := value.Calls(f, m)
	if want := calls(strings.Repeat("g=1 > x:1 ", api.MaxNest) + "d$q"); e != ok || !sameCalls(cs, want) {
		t.Errorf("P16.5: Calls: %d\n%s", e, showCalls(cs))
	}
	back, e := value.Tree(f, cs)
	wantNodes(t, "P16.9: Tree of Calls", back, e, m)
	// Behind the innermost data each depth may have one entry more, and nothing else.
	for depth := 3; depth <= 1+2*api.MaxNest; depth += 2 {
		more := append(copyOf(m), api.Val{Depth: depth, Kind: api.ValEntry})
		wantCheck(t, "an entry more", f, more, api.ErrTree, len(more))
		wantCheck(t, "an entry more, by a depth that is none", f, with(more, len(more)-1, func(v *api.Val) { v.Depth++ }), api.ErrTree, len(m))
	}
}
