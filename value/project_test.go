package value_test

import (
	"fmt"
	"math"
	"strings"
	"testing"

	"stencil/api"
	"stencil/project"
	"stencil/value"
)

// grown is a message that there was from 1 on: 1 had a, and g with x; 2 got b, y (in g), z (in g's h) and the group i with w; 3 the composite c, the set s and the data d; 4 the field v (in i) and the data e.
func grown(t testing.TB) api.Form {
	f := madeOf(t, 5, []change{since(1)},
		field("a", one(api.Uint8), since(1)), constantSince("k", 1),
		field("b", one(api.Int16, null(77)), optional, since(2)),
		field("c", composite(array(api.Char, 2), one(api.Int8)), optional, since(3)), field("s", set(one(api.Uint16), 3), optional, since(3)),
		group("g", api.Uint8, 1, nil, field("x", one(api.Uint8), since(1)), field("y", enum(one(api.Char), 65), optional, since(2)),
			group("h", api.Uint8, 1, nil, field("q", one(api.Uint8), since(1)), field("z", array(api.Uint32, 2), optional, since(2)), data("n", api.Uint8, since(1))),
			data("m", api.Uint8, since(1))),
		group("i", api.Uint8, 2, nil, field("w", one(api.Uint8), since(2)), field("v", one(api.Double), optional, since(4)), data("j", api.Uint8, since(2))),
		data("d", api.Uint8, since(3)), data("e", api.Uint16, since(4)))
	return f
}

// constantSince is a field that came at a version, and takes no bytes.
func constantSince(name string, from int) bit {
	return func(k *maker) {
		constant(name, one(api.Uint8))(k)
		k.tokens[len(k.tokens)-3].Since = from
	}
}

// The trees of a message at each version, as that version's reader sees what was written at the last one.
func grownTrees() map[int]string {
	return map[int]string{
		1: "M a=1 g{ - x=2 h{ - q=3 n$n1 - q=4 n$ } m$m1 - x=5 h{ } m$ }",
		2: "M a=1 b=6 g{ - x=2 y=7 h{ - q=3 z=8,9 n$n1 - q=4 z=10,11 n$ } m$m1 - x=5 y=12 h{ } m$ } i{ - w=13 j$jj - w=14 j$ }",
		3: "M a=1 b=6 c=1,2,3 s=4 g{ - x=2 y=7 h{ - q=3 z=8,9 n$n1 - q=4 z=10,11 n$ } m$m1 - x=5 y=12 h{ } m$ } i{ - w=13 j$jj - w=14 j$ } d$dd",
		4: "M a=1 b=6 c=1,2,3 s=4 g{ - x=2 y=7 h{ - q=3 z=8,9 n$n1 - q=4 z=10,11 n$ } m$m1 - x=5 y=12 h{ } m$ } i{ - w=13 v=15 j$jj - w=14 v=16 j$ } d$dd e$ee",
		5: "M a=1 b=6 c=1,2,3 s=4 g{ - x=2 y=7 h{ - q=3 z=8,9 n$n1 - q=4 z=10,11 n$ } m$m1 - x=5 y=12 h{ } m$ } i{ - w=13 v=15 j$jj - w=14 v=16 j$ } d$dd e$ee",
	}
}

// grownNull is what a reader of version 5 sees of what was written at a version.
func grownNull(from int) string {
	said := grownTrees()[5]
	away := func(least int, pairs ...string) {
		if from < least {
			said = strings.NewReplacer(pairs...).Replace(said)
		}
	}
	double := "0x7FF8000000000000"
	away(2, "b=6", "b=77", "y=7", "y=0", "y=12", "y=0", "z=8,9", "z=0xFFFFFFFF,0xFFFFFFFF", "z=10,11", "z=0xFFFFFFFF,0xFFFFFFFF", "i{ - w=13 v=15 j$jj - w=14 v=16 j$ }", "i{ }")
	away(3, "c=1,2,3", "c=0,0,-128", "s=4", "s=0", "d$dd", "d$")
	away(4, "v=15", "v="+double, "v=16", "v="+double, "e$ee", "e$")
	return said
}

// P16.3: from every version of a message to every other one, with parts, groups inside groups and data that live at the one and not at the other.
func TestProjectAll(t *testing.T) {
	f, trees := grown(t), grownTrees()
	for from := 1; from <= 5; from++ {
		g, _ := project.At(f, from)
		wantCheck(t, fmt.Sprint("at ", from), g, tree(trees[from]), ok, 0)
		last, e := value.Project(f, tree(trees[from]), from, 5)
		wantNodes(t, fmt.Sprintf("P16.3: from %d to 5", from), last, e, tree(grownNull(from)))
		for to := 1; to <= 5; to++ {
			got, e := value.Project(f, tree(trees[from]), from, to)
			what := fmt.Sprintf("P16.3: from %d to %d", from, to)
			if to <= from {
				wantNodes(t, what, got, e, tree(trees[to]))
			}
			// What a higher version adds is gone when a lower one looks.
			want, e5 := value.Project(f, last, 5, to)
			if e5 != ok {
				t.Errorf("P16.3: from 5 to %d: %d", to, e5)
			}
			wantNodes(t, what+", by 5", got, e, want)
			h, _ := project.At(f, to)
			wantCheck(t, what, h, got, ok, 0)
		}
	}
}

// P16.3: the versions that are refused, and lists that are no tree of the form as it was.
func TestProjectRefuses(t *testing.T) {
	f, trees := grown(t), grownTrees()
	for _, v := range []int{math.MinInt, -1, 0, 6, 7, 65535, math.MaxInt} {
		for _, said := range []string{trees[1], trees[5], "M"} {
			for _, pair := range [][2]int{{v, 1}, {1, v}, {v, v}, {5, v}, {v, 5}} {
				got, e := value.Project(f, tree(said), pair[0], pair[1])
				wantErr(t, fmt.Sprint("P16.3: from and to ", pair), got, e, api.ErrVersion)
			}
		}
	}
	for from := 1; from <= 5; from++ {
		for at, said := range trees {
			m := tree(said)
			g, _ := project.At(f, from)
			want, _ := value.Check(g, m)
			if (want == ok) != (from == at || from == 4 && at == 5 || from == 5 && at == 4) {
				t.Errorf("P16.1: the tree of %d at %d: %d", at, from, want)
			}
			for to := 1; to <= 5; to++ {
				if got, e := value.Project(f, m, from, to); e != want || e != ok && len(got) != 0 {
					t.Errorf("P16.3: the tree of %d from %d to %d: %d, want %d", at, from, to, e, want)
				}
			}
		}
	}
	m := tree(trees[3])
	for _, x := range []struct {
		do  func(v *api.Val)
		at  int
		err api.Errno
	}{
		{func(v *api.Val) { v.Words = nil }, 1, api.ErrWords},
		{func(v *api.Val) { v.Words = numbers("256") }, 1, api.ErrFit},
		{func(v *api.Val) { v.Text = strings.Repeat("x", 255) }, len(m) - 1, api.ErrData},
		{func(v *api.Val) { v.Kind = 9 }, len(m) - 1, api.ErrTree},
	} {
		// Whether the part that is wrong lives at the other version makes no difference.
		for to := 1; to <= 5; to++ {
			got, e := value.Project(f, with(m, x.at, x.do), 3, to)
			wantErr(t, fmt.Sprint("P16.3: to ", to), got, e, x.err)
		}
	}
	got, e := value.Project(f, nil, 1, 1)
	wantErr(t, "P16.3: of nothing", got, e, api.ErrTree)
	f.Order = 2
	got, e = value.Project(f, m, 0, 9)
	wantErr(t, "P16.3: of what is no form", got, e, api.ErrTokens)
}

// P16.3: what weighs too much where it came from is refused; where it goes isn't asked.
func TestProjectWeighs(t *testing.T) {
	// At 0 the text fills the message; at 1 there is a length more.
	f := made(t, 1, data("d", api.Uint32), data("e", api.Uint32, since(1)))
	text := strings.Repeat("x", api.MaxMessage-8-4)
	m := tree("M d$")
	m[1].Text = text
	got, e := value.Project(f, m, 0, 1)
	wantNodes(t, "P16.3: a tree that weighs too much at 1", got, e, append(m, api.Val{Depth: 2, Kind: api.ValData, Name: "e"}))
	if e, at := value.Check(f, got); e != api.ErrLong || at != 2 {
		t.Errorf("P16.1: and is none there: %d, %d", e, at)
	}
	back, e := value.Project(f, got, 1, 0)
	wantErr(t, "P16.3: back", back, e, api.ErrLong)
	m[1].Text += "x"
	got, e = value.Project(f, m, 0, 0)
	wantErr(t, "P16.3: too much at 0", got, e, api.ErrLong)
}

// P16.9: by way of a version between, where all that lives at both ends is known there; and not else.
func TestProjectTwice(t *testing.T) {
	f, trees := grown(t), grownTrees()
	for u := 1; u <= 5; u++ {
		for v := 1; v <= 5; v++ {
			between, e := value.Project(f, tree(trees[u]), u, v)
			if e != ok {
				t.Fatalf("P16.3: from %d to %d: %d", u, v, e)
			}
			for w := 1; w <= 5; w++ {
				got, e := value.Project(f, between, v, w)
				want, _ := value.Project(f, tree(trees[u]), u, w)
				// Between 4 and 5 nothing has come.
				known := v >= min(u, w) || v >= 4
				if e != ok || sameNodes(got, want) != known {
					t.Errorf("P16.9: from %d by %d to %d: %d; the same: %v, want %v", u, v, w, e, sameNodes(got, want), known)
				}
			}
		}
	}
}
