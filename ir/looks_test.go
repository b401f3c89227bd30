package ir_test

import (
	"iter"
	"math"
	"slices"
	"testing"

	"stencil/api"
	"stencil/ir"
	"stencil/types"
)

// holdLooks asks Parts, Find, Leaves and Show at all places of a form, and beside it, and holds them against second ones.
func holdLooks(t *testing.T, f api.Form) {
	t.Helper()
	for _, i := range append([]int{math.MinInt, -1, len(f.Tokens), len(f.Tokens) + 1, math.MaxInt}, places(f)...) {
		parts := secondParts(f, i)
		if got := slices.Collect(ir.Parts(f, i)); !slices.Equal(got, parts) {
			t.Fatalf("P12.3: Parts at %d: %v, want %v\n%s", i, got, parts, list(f.Tokens))
		}
		if got, want := slices.Collect(ir.Leaves(f, i)), secondLeaves(f, i); !slices.Equal(got, want) {
			t.Fatalf("P12.4: Leaves at %d: %v, want %v\n%s", i, got, want, list(f.Tokens))
		}
		for _, name := range []string{"", "nothing", "a", "d", "g"} {
			want := -1
			for _, k := range parts {
				if f.Tokens[k].Name == name {
					want = k
				}
			}
			if got := ir.Find(f, i, name); got != want {
				t.Fatalf("P12.3: Find at %d of %q: %d, want %d\n%s", i, name, got, want, list(f.Tokens))
			}
		}
		for _, k := range parts {
			if got := ir.Find(f, i, f.Tokens[k].Name); got != k {
				t.Fatalf("P12.3: Find at %d of %q: %d, want %d", i, f.Tokens[k].Name, got, k)
			}
		}
	}
	lines, e := ir.Show(f)
	if want, err := secondShow(f); e != err || !slices.Equal(lines, want) {
		t.Fatalf("P12.5: Show: %q, error %d\nwant %q, error %d", lines, e, want, err)
	}
}

func places(f api.Form) []int {
	var out []int
	for i := range f.Tokens {
		out = append(out, i)
	}
	return out
}

// Example 3 of the chapter; P12.3 and P12.4.
func TestChapterLooks(t *testing.T) {
	f := chapterForm(t)
	for i, want := range map[int][]int{0: {1, 4, 11}, 1: nil, 2: nil, 13: nil, 14: nil, -1: nil} {
		if got := slices.Collect(ir.Parts(f, i)); !slices.Equal(got, want) {
			t.Errorf("Parts at %d: %v", i, got)
		}
	}
	for name, want := range map[string]int{"seq": 1, "kind": 4, "note": 11, "nothing": -1, "Ping": -1, "uint32": -1, "Kind": -1, "": -1} {
		if got := ir.Find(f, 0, name); got != want {
			t.Errorf("Find of %q: %d", name, got)
		}
	}
	if ir.Find(f, 1, "seq") != -1 || ir.Find(f, -1, "seq") != -1 || ir.Find(f, 14, "seq") != -1 {
		t.Error("Find beside the message")
	}
	for i, want := range map[int][]int{1: {2}, 4: {6}, 0: nil, 2: nil, 3: nil, 5: nil, 11: nil, 14: nil, -1: nil} {
		if got := slices.Collect(ir.Leaves(f, i)); !slices.Equal(got, want) {
			t.Errorf("Leaves at %d: %v", i, got)
		}
	}
	holdLooks(t, f)
}

// P12.3 and P12.4: at each place of a form with all that there is, and of one that no schema has.
func TestLooks(t *testing.T) {
	for _, f := range oddForms(t) {
		holdLooks(t, f)
	}
	holdLooks(t, nested(8, 16))
	f := wide()
	holdLooks(t, f)
	at := func(path string) int { return place(t, f, path) }
	for path, want := range map[string][]int{
		"M":   {at("M.a"), at("M.arr"), at("M.k"), at("M.c"), at("M.s"), at("M.z"), at("M.n"), at("M.g"), at("M.g2"), at("M.d"), at("M.d2")},
		"M.g": {at("M.g.a"), at("M.g.h"), at("M.g.d")}, "M.g.h": {at("M.g.h.d")}, "M.g2": {at("M.g2.b")}, "M.g.$g": nil, "M.c": nil, "M.c.C": nil, "M.d": nil, "M.$M": nil,
	} {
		if got := slices.Collect(ir.Parts(f, at(path))); !slices.Equal(got, want) {
			t.Errorf("P12.3: Parts at %s: %v, want %v", path, got, want)
		}
	}
	for path, want := range map[string][]int{
		"M.a": {at("M.a.uint32")}, "M.arr": {at("M.arr.Arr")}, "M.k": nil, "M.c": {at("M.c.C.m"), at("M.c.C.side.char"), at("M.c.C.in.flags.uint16"), at("M.c.C.in.t"), at("M.c.C.nil") + 2},
		"M.s": {at("M.s.S.uint64")}, "M.z": nil, "M.n": nil, "M.g": nil, "M.g.a": {at("M.g.a.uint8")}, "M": nil, "M.c.C": nil, "M.c.$c": nil, "M.a.uint32": nil,
	} {
		if got := slices.Collect(ir.Leaves(f, at(path))); !slices.Equal(got, want) {
			t.Errorf("P12.4: Leaves at %s: %v, want %v", path, got, want)
		}
	}
	// The name d stands in three places, each its own.
	for path, want := range map[string]string{"M": "M.d", "M.g": "M.g.d", "M.g.h": "M.g.h.d"} {
		if got := ir.Find(f, at(path), "d"); got != at(want) {
			t.Errorf("P12.3: Find of d at %s: %d", path, got)
		}
	}
	if got := ir.Find(f, at("M.g2"), "d"); got != -1 {
		t.Errorf("P12.3: Find of d at g2: %d", got)
	}
}

// Example 5 of the chapter, and every other line; P12.5.
func TestShow(t *testing.T) {
	lines, e := ir.Show(chapterForm(t))
	want := []string{"message Ping 1 0 5", "  field seq 1 0 0 4 required", "    encoding uint32 0 4 uint32 1 required", "  end seq", "  field kind 2 1 4 1 optional", "    enum Kind 0 1", "      encoding uint8 0 1 uint8 1 required",
		"      choice A 1 0", "      choice B 2 0", "    end Kind", "  end kind", "  data note 3 0 2 uint8", "  end note", "end Ping"}
	if e != api.OK || !slices.Equal(lines, want) {
		t.Errorf("%q, error %d", lines, e)
	}
	lines, e = ir.Show(wide())
	want = []string{
		"message M 1 1 60",
		"  field a 10 1 2 4 required", "    encoding uint32 0 4 uint32 1 required", "  end a",
		"  field arr 11 1 8 6 optional", "    encoding Arr 0 6 int16 3 required", "  end arr",
		"  field k 12 2 0 0 constant", "    enum E 0 1", "      encoding int8 0 1 int8 1 required", "      choice K 18446744073709551615 0", "    end E", "  end k",
		"  field c 13 2 20 20 optional", "    composite C 0 20", "      encoding m 0 8 int64 1 required", "      encoding e 3 0 uint8 2 constant",
		"      enum side 9 1", "        encoding char 9 1 char 1 optional", "        choice A 65 0", "        choice B 66 9", "      end side",
		"      composite in 10 8", "        set flags 12 2", "          encoding uint16 12 2 uint16 1 required", "          choice x 0 0", "          choice y 15 0", "        end flags", "        encoding t 14 2 int8 2 required", "      end in",
		"      composite nil 20 0", "      end nil", "      encoding m 18 1 char 1 required", "    end C", "  end c",
		"  field s 14 3 40 8 optional", "    set S 0 8", "      encoding uint64 0 8 uint64 1 required", "    end S", "  end s",
		"  field z 15 3 0 0 optional", "    composite Z 0 0", "      encoding q 0 0 float 1 constant", "    end Z", "  end z",
		"  field n 16 3 0 0 optional", "    enum N 0 0", "      encoding int16 0 0 int16 1 constant", "      choice K 18446744073709518848 0", "    end N", "  end n",
		"  group g 20 1 5 9", "    field a 21 2 8 1 optional", "      encoding uint8 0 1 uint8 1 required", "    end a",
		"    group h 22 1 8 0", "      data d 23 1 1 char", "      end d", "    end h", "    data d 24 1 2 uint8", "    end d", "  end g",
		"  group g2 1 2 3 1", "    field b 26 2 0 1 required", "      encoding char 0 1 char 1 required", "    end b", "  end g2",
		"  data d 27 2 4 uint8", "  end d", "  data d2 28 4 1 char", "  end d2",
		"end M",
	}
	if e != api.OK || !slices.Equal(lines, want) {
		for i := range lines {
			if i >= len(want) || lines[i] != want[i] {
				t.Errorf("%d: %q", i, lines[i])
			}
		}
		t.Errorf("%d lines, error %d", len(lines), e)
	}
}

// P12.6: an iterator may be stopped, ranged over again, and inside itself.
func TestIterators(t *testing.T) {
	f := wide()
	c := place(t, f, "M.c")
	for what, x := range map[string]struct {
		seq  iter.Seq[int]
		want []int
	}{
		"Parts": {ir.Parts(f, 0), secondParts(f, 0)}, "Leaves": {ir.Leaves(f, c), secondLeaves(f, c)}, "no Parts": {ir.Parts(f, 1), nil}, "no Leaves": {ir.Leaves(f, 0), nil}, "Parts of no form": {ir.Parts(api.Form{}, 0), nil},
	} {
		for range 2 {
			if got := slices.Collect(x.seq); !slices.Equal(got, x.want) {
				t.Errorf("%s: %v, want %v", what, got, x.want)
			}
		}
		for stop := 1; stop <= len(x.want); stop++ {
			var got []int
			for i := range x.seq {
				got = append(got, i)
				if len(got) == stop {
					break
				}
			}
			if !slices.Equal(got, x.want[:stop]) {
				t.Errorf("%s, stopped: %v, want %v", what, got, x.want[:stop])
			}
		}
		var outer []int
		for i := range x.seq {
			outer = append(outer, i)
			if got := slices.Collect(x.seq); !slices.Equal(got, x.want) {
				t.Errorf("%s, inside itself: %v, want %v", what, got, x.want)
			}
		}
		if !slices.Equal(outer, x.want) {
			t.Errorf("%s, around itself: %v, want %v", what, outer, x.want)
		}
		next, stop := iter.Pull(x.seq)
		if len(x.want) > 0 {
			if i, ok := next(); !ok || i != x.want[0] {
				t.Errorf("%s, pulled: %d, %v", what, i, ok)
			}
		}
		stop()
	}
}

// P12.6: what becomes of the form's lists behind the call, and while the iterator is ranged over, makes no difference.
func TestIteratorsGoByCopies(t *testing.T) {
	f := wide()
	c := place(t, f, "M.c")
	parts, leaves := ir.Parts(f, 0), ir.Leaves(f, c)
	wantParts, wantLeaves := secondParts(f, 0), secondLeaves(f, c)
	spoil := func(n int) {
		for i := range f.Tokens {
			f.Tokens[i] = api.Token{Op: api.BeginField, Pair: n}
		}
	}
	var got []int
	for i := range parts {
		got = append(got, i)
		spoil(i)
	}
	if !slices.Equal(got, wantParts) || !slices.Equal(slices.Collect(parts), wantParts) {
		t.Errorf("Parts: %v, want %v", got, wantParts)
	}
	got = nil
	for i := range leaves {
		got = append(got, i)
		spoil(-i)
	}
	if !slices.Equal(got, wantLeaves) || !slices.Equal(slices.Collect(leaves), wantLeaves) {
		t.Errorf("Leaves: %v, want %v", got, wantLeaves)
	}
	// And what was no form stays none.
	bad := wide()
	bad.Order = 2
	parts = ir.Parts(bad, 0)
	bad.Order = api.Little
	bad.Tokens[0].Pair = len(bad.Tokens) - 1
	if got := slices.Collect(parts); len(got) != 0 {
		t.Errorf("Parts of what was no form: %v", got)
	}
}

// holdSchema asks all of a valid schema's messages. P12.1 and P12.7: each has a form, which Check takes, and its Leaves have as many elements as types.Words says of the fields' types.
func holdSchema(t *testing.T, s api.Schema) []api.Form {
	t.Helper()
	forms, e := ir.All(s)
	if e != api.OK {
		t.Fatalf("P12.1: All: error %d", e)
	}
	n := 0
	for i, p := range s.Parts {
		f, e := ir.Compile(s, i)
		want, err := secondCompile(s, i)
		if e != err || !alike(f, want) {
			t.Fatalf("P12.1: Compile(%d): error %d, want %d\n%swant\n%s%+v", i, e, err, list(f.Tokens), list(want.Tokens), s)
		}
		if p.Kind != api.PartMessage {
			continue
		}
		if n >= len(forms) || !alike(forms[n], want) {
			t.Fatalf("P12.1: All: the message at %d isn't the form %d", i, n)
		}
		n++
		if e, at := ir.Check(f); e != api.OK || at != 0 {
			t.Fatalf("P12.7: Check: error %d, %d\n%s%+v", e, at, list(f.Tokens), s)
		}
		holdWords(t, s, i, f)
	}
	if n != len(forms) {
		t.Fatalf("P12.1: All: %d forms of %d messages", len(forms), n)
	}
	return forms
}

// holdWords goes over the fields of a message and its form side by side: both have them in one order.
func holdWords(t *testing.T, s api.Schema, part int, f api.Form) {
	t.Helper()
	var fields []int
	for i, x := range f.Tokens {
		if x.Op == api.BeginField {
			fields = append(fields, i)
		}
	}
	n := 0
	for _, p := range s.Parts[part+1:] {
		if p.Depth == 1 {
			break
		}
		if p.Kind != api.PartField {
			continue
		}
		words, elements := types.Words(s.Types, p.Type), 0
		for k := range ir.Leaves(f, fields[n]) {
			elements += f.Tokens[k].Length
		}
		written := p.Presence == api.Constant
		if f.Tokens[fields[n]].Name != p.Name || !written && elements != words || written && elements != 0 {
			t.Fatalf("P12.7: the field %s: %d elements, %d words", p.Name, elements, words)
		}
		n++
	}
	if n != len(fields) {
		t.Fatalf("P12.7: %d fields, and %d in the form", n, len(fields))
	}
}

// P12.7: of schemas with all that there is.
func TestFormsOfSchemas(t *testing.T) {
	holdSchema(t, chapterM(t))
	for _, f := range holdSchema(t, oddSchema(t)) {
		wantForm(t, f.Tokens[0].Name, f)
	}
}
