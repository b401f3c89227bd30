package value_test

import (
	"math"
	"slices"
	"strings"
	"testing"

	"stencil/api"
	"stencil/order"
	"stencil/value"
)

// P16.5, P16.6, P16.9: calls of a tree, and back; the calls are a whole message by layer 14.
func TestCallsAndBack(t *testing.T) {
	for _, x := range []struct {
		f           api.Form
		said, calls string
	}{
		{wide(t), wideTree, "a:1 b:2,3 g=2 > a:4 h=2 > y:5 e=2 > > > y:6 e=0 i=1 > z$z d$ > a:7 h=0 i=0 d$dd h=2 > > d$ e$eee"},
		{wide(t), "M a=1 b=2,3 g{ } h{ } d$ e$", "a:1 b:2,3 g=0 h=0 d$ e$"},
		{wide(t), "M a=1 b=2,3 g{ - a=4 h{ } i{ - z$ - z$x - z$ } d$ } h{ } d$q e$", "a:1 b:2,3 g=1 > a:4 h=0 i=3 > z$ > z$x > z$ d$ h=0 d$q e$"},
		{leafy(t), leafyTree, "two:-1,5 three:65,66,0 mix:1,-2,1,5,7,8 all:1,2,-3,4"},
	} {
		m := tree(x.said)
		cs, e := value.Calls(x.f, m)
		if want := calls(x.calls); e != ok || !sameCalls(cs, want) {
			t.Errorf("P16.5: %s: %d\n%swant\n%s", x.said, e, showCalls(cs), showCalls(want))
		}
		machine, _ := order.New(x.f)
		for i, c := range cs {
			if e := machine.Step(c); e != ok {
				t.Errorf("P16.9: call %d: %d", i, e)
			}
		}
		if !machine.Done() {
			t.Error("P16.9: the calls of a tree are no whole message")
		}
		got, e := value.Tree(x.f, cs)
		wantNodes(t, "P16.9: Tree of Calls", got, e, m)
	}
}

// P16.9: Nulls is Tree of calls of each group with the count 0 and each data with "".
func TestNullsOfCalls(t *testing.T) {
	for _, x := range []struct {
		f    api.Form
		said string
	}{{wide(t), "g=0 h=0 d$ e$"}, {leafy(t), ""}, {chapter(t), "g=0 d$"}, {grown(t), "g=0 i=0 d$ e$"}, {made(t, 0), ""}} {
		want, e := value.Nulls(x.f)
		if e != ok {
			t.Errorf("P16.2: Nulls: %d", e)
		}
		got, e := value.Tree(x.f, calls(x.said))
		wantNodes(t, "P16.9: Tree of "+x.said, got, e, want)
	}
}

// P16.2, P16.6: nulls by the leaf: its own Null, whatever the type's is; of a set 0, of an enum its Null.
func TestNullWords(t *testing.T) {
	own := func(p api.Prim, w uint64) kind { return one(p, null(w)) }
	f := made(t, 0, field("a", own(api.Uint8, 7)), field("b", enum(own(api.Int8, 1<<64-5), 1)), field("c", set(own(api.Uint16, 9), 1, 2)),
		field("d", composite(array(api.Int16, 3, null(1)), set(own(api.Uint64, 1<<64-1)), enum(own(api.Char, 32)), composite(fixed(api.Uint8, 1), own(api.Float, 3)))),
		plain("g", api.Uint8, field("a", own(api.Double, 4)), field("c", set(own(api.Uint8, 5), 0))))
	const nulls = "a=7 b=-5 c=0 d=1,1,1,0,32,3"
	got, e := value.Nulls(f)
	wantNodes(t, "P16.2: Nulls", got, e, tree("M "+nulls+" g{ }"))
	wantTree(t, f, "g=2 > > c:1", "M "+nulls+" g{ - a=4 c=0 - a=4 c=1 }")
}

// P16.6: a field that was called has the words of its last call in its block; the next entry's has its null words again.
func TestCalledTwice(t *testing.T) {
	f := made(t, 0, field("a", one(api.Uint8)), field("b", array(api.Uint8, 2)),
		plain("g", api.Uint8, field("a", one(api.Uint8)), field("b", one(api.Uint8)),
			plain("h", api.Uint8, field("a", one(api.Uint8))), data("d", api.Uint8)), data("e", api.Uint8))
	wantTree(t, f, "b:1,2 a:3 b:4,5 a:6 b:7,8 g=0 e$", "M a=6 b=7,8 g{ } e$")
	wantTree(t, f, "a:1 g=3 > a:2 a:3 h=0 d$ > b:4 h=0 d$ > h=0 d$ e$", "M a=1 b=255,255 g{ - a=3 b=255 h{ } d$ - a=255 b=4 h{ } d$ - a=255 b=255 h{ } d$ } e$")
	wantTree(t, f, "a:1 g=1 > h=3 > a:5 > > a:7 a:6 d$ e$", "M a=1 b=255,255 g{ - a=255 b=255 h{ - a=5 - a=255 - a=6 } d$ } e$")
	// The order in which fields are called makes no difference.
	wantTree(t, f, "b:1,2 a:3 g=1 > b:5 a:4 h=0 d$ e$", "M a=3 b=1,2 g{ - a=4 b=5 h{ } d$ } e$")
	// A call that is refused, though a later one of the field would do.
	refuseTree(t, f, calls("a:256 a:1 g=0 e$"), api.ErrFit)
	refuseTree(t, f, calls("a:1,1 a:1 g=0 e$"), api.ErrWords)
	// A list that the caller holds twice is told as it stands.
	words := []uint64{1, 2}
	got, e := value.Tree(f, []api.Call{{Name: "b", Words: words[:2:2]}, {Name: "a", Words: words[:1]}, {Kind: api.CallGroup, Name: "g"}, {Kind: api.CallData, Name: "e"}})
	wantNodes(t, "P16.6: two calls of one list", got, e, tree("M a=1 b=1,2 g{ } e$"))
}

// P16.6: what a call doesn't need isn't looked at.
func TestCallsWithMore(t *testing.T) {
	f := chapter(t)
	cs := calls("a:1 g=1 > x:2 e$q d$")
	want, e := value.Tree(f, cs)
	wantNodes(t, "P16.6: Tree", want, e, tree("M a=1 b=-32768 c=65535 g{ - x=2 e$q } d$"))
	for i := range cs {
		c := &cs[i]
		if c.Kind != api.CallField {
			c.Words = numbers("1,2,256")
		}
		if c.Kind != api.CallData {
			c.Text = strings.Repeat("x", 300)
		}
		if c.Kind != api.CallGroup {
			c.Count = -9
		}
		if c.Kind == api.CallNext {
			c.Name = "nothing"
		}
	}
	got, e := value.Tree(f, cs)
	wantNodes(t, "P16.6: with more", got, e, want)
}

// P16.6: each of a Step's errors, at each place.
func TestTreeRefuses(t *testing.T) {
	f := wide(t)
	cs, _ := value.Calls(f, tree(wideTree))
	for i := range cs {
		ahead := func(c api.Call) []api.Call { return append(slices.Clone(cs[:i]), c) }
		for _, k := range []api.CallKind{math.MinInt, -1, 4, 5, math.MaxInt} {
			refuseTree(t, f, ahead(api.Call{Kind: k, Name: "a", Words: numbers("1")}), api.ErrOrder)
		}
		for k := api.CallField; k <= api.CallData; k++ {
			if k != api.CallNext {
				refuseTree(t, f, ahead(api.Call{Kind: k, Name: "nothing", Words: numbers("1")}), api.ErrOrder)
				refuseTree(t, f, ahead(api.Call{Kind: k, Words: numbers("1")}), api.ErrOrder)
			}
		}
		if c := cs[i]; c.Kind == api.CallGroup {
			for _, n := range []int{-1, math.MinInt, 1 << 32, math.MaxInt} {
				refuseTree(t, f, ahead(api.Call{Kind: c.Kind, Name: c.Name, Count: n}), api.ErrCount)
			}
		}
		// The calls end too early.
		refuseTree(t, f, cs[:i], api.ErrTree)
	}
	refuseTree(t, f, append(slices.Clone(cs), cs[len(cs)-1]), api.ErrOrder)
	refuseTree(t, f, append(slices.Clone(cs), cs[0]), api.ErrOrder)
	refuseTree(t, f, append(slices.Clone(cs), api.Call{Kind: api.CallNext}), api.ErrOrder)
	refuseTree(t, f, calls("k:1"), api.ErrOrder)
	// Behind an error all the rest is no matter.
	refuseTree(t, f, append(calls("a:1,1"), api.Call{Kind: 9}), api.ErrWords)
	refuseTree(t, f, append(calls("a:256"), api.Call{Kind: 9}), api.ErrFit)
	refuseTree(t, f, append([]api.Call{{Kind: 9}}, calls("a:256")...), api.ErrOrder)
	// Which comes first at one call.
	refuseTree(t, f, calls("z:1,256"), api.ErrOrder)
	refuseTree(t, f, calls("b:256"), api.ErrWords)
	refuseTree(t, f, calls("b:256,256"), api.ErrFit)
	refuseTree(t, f, calls("a:"), api.ErrWords)
	refuseTree(t, f, calls("b:1"), api.ErrWords)
	refuseTree(t, f, calls("b:1,2,3"), api.ErrWords)
	refuseTree(t, f, []api.Call{{Kind: api.CallData, Name: "d", Text: strings.Repeat("x", 1<<16)}}, api.ErrOrder)
	refuseTree(t, f, append(calls("g=0 h=0"), api.Call{Kind: api.CallData, Name: "d", Text: strings.Repeat("x", 1<<16)}), api.ErrData)
	refuseTree(t, f, append(calls("g=1 > h=0 i=1 >"), api.Call{Kind: api.CallData, Name: "z", Text: strings.Repeat("x", 255)}), api.ErrData)
}

// P16.6: fields of the last entry may be called as long as nothing else has come, where the entry has no groups or data.
func TestLastFields(t *testing.T) {
	f := made(t, 0, field("a", one(api.Uint8)), plain("g", api.Uint8, field("x", one(api.Uint8)), plain("h", api.Uint8, field("y", one(api.Uint8)))))
	wantTree(t, f, "g=1 > h=1 > y:1 y:2", "M a=255 g{ - x=255 h{ - y=2 } }")
	wantTree(t, f, "g=2 > x:1 h=0 > x:2 h=2 > y:3 >", "M a=255 g{ - x=1 h{ } - x=2 h{ - y=3 - y=255 } }")
	refuseTree(t, f, calls("g=1 > h=1 > y:1 x:2"), api.ErrOrder)
	refuseTree(t, f, calls("g=1 > h=1 > y:1 a:2"), api.ErrOrder)
	refuseTree(t, f, calls("g=1 > h=0 x:2"), api.ErrOrder)
	refuseTree(t, f, calls("g=0 a:1"), api.ErrOrder)
	refuseTree(t, f, calls("g=1 > h=1 > y:1 >"), api.ErrOrder)
	refuseTree(t, f, calls("g=1 > h=2 > y:1"), api.ErrTree)
	refuseTree(t, f, calls("g=2 > h=0"), api.ErrTree)
	refuseTree(t, f, calls("g=2 > h=1 > y:1 > h=0 x:1"), api.ErrOrder)
}
