package words_test

import (
	"slices"
	"strings"
	"testing"

	"stencil/api"
	"stencil/ir"
	"stencil/value"
	"stencil/words"
)

// P23.1, P23.3: trees by chance: Parse of what Print prints is the tree.
func TestRandomTrees(t *testing.T) {
	trees, seen := 0, map[string]int{}
	for seed := range int64(1200) {
		r := newDice(seed)
		f := r.form()
		look := secondOf(f)
		for range 4 {
			m := r.tree(f)
			if e, _ := value.Check(f, m); e != ok {
				continue
			}
			trees++
			holdTreeBy(t, look, m)
			s, _ := words.Print(f, m)
			for _, what := range []string{"null", "Buy", ":[]", `""`, ";", ",", `\x`, "INF", "0x", "e-", "} {", "{}", "-"} {
				if strings.Contains(s, what) {
					seen[what]++
				}
			}
		}
	}
	if trees < 4000 {
		t.Errorf("only %d trees", trees)
	}
	for what, n := range seen {
		if n < 50 {
			t.Errorf("only %d texts had %s", n, what)
		}
	}
	if len(seen) != 13 {
		t.Errorf("only these were in texts: %v", seen)
	}
}

// P23.2, P23.3: texts by chance: whatever the layout, the order and the spelling are, the tree is the same, and so is its text, and that of a second time.
func TestRandomTexts(t *testing.T) {
	texts := 0
	for seed := range int64(1000) {
		r := newDice(seed)
		f := r.form()
		look := secondOf(f)
		m := r.tree(f)
		want, e := words.Print(f, m)
		if e != ok {
			continue
		}
		for range 5 {
			s := r.text(look, m)
			if s != want {
				texts++
			}
			got, e, at := words.Parse(f, s)
			if e != ok || at != 0 || !value.Same(got, m) {
				t.Fatalf("P23.2: Parse(%q) = %v, %v, %d\nwant %v", s, got, e, at, m)
			}
			for range 2 {
				back, e := words.Print(f, got)
				if e != ok || back != want {
					t.Fatalf("P23.3: Print of Parse(%q) = %q, %v; want %q", s, back, e, want)
				}
				got, _, _ = words.Parse(f, back)
			}
			holdBy(t, look, s)
		}
	}
	if texts < 3000 {
		t.Errorf("only %d texts were others", texts)
	}
}

// P23.2, P23.4: texts with something wrong, by chance: the first fault and its place are told as the second look says.
func TestRandomFaults(t *testing.T) {
	got := map[api.Errno]int{}
	for seed := range int64(2000) {
		r := newDice(seed)
		f := r.form()
		look := secondOf(f)
		m := r.tree(f)
		for range 10 {
			s := r.text(look, m)
			if r.oneIn(2) {
				s, _ = words.Print(f, m)
			}
			if r.oneIn(2) {
				s = r.swapped(s)
			} else {
				s = r.spoilt(s)
			}
			got[holdBy(t, look, s)]++
		}
	}
	for _, e := range []api.Errno{ok, api.ErrSyntax, api.ErrQuote, api.ErrNumber, api.ErrTooBig, api.ErrWords} {
		if got[e] < 100 {
			t.Errorf("only %d were answered %v: %v", got[e], e, got)
		}
	}
}

// P23.2: texts of one form read by another one, whose names are mostly the same.
func TestRandomOtherForms(t *testing.T) {
	got := map[api.Errno]int{}
	for seed := range int64(1500) {
		r := newDice(seed)
		f, g := r.form(), r.form()
		m := r.tree(f)
		if s, e := words.Print(f, m); e == ok {
			got[hold(t, g, s)]++
		}
		if e, _ := value.Check(g, m); e != ok {
			refuseTree(t, "another form's", g, m, e)
		}
	}
	if got[api.ErrSyntax] < 500 {
		t.Errorf("%v", got)
	}
}

// P23.1, P23.2: forms with something otherwise: what is no form is told ahead of all else; by what is one trees and texts are told as ever.
func TestRandomForms(t *testing.T) {
	forms, none := 0, 0
	for seed := range int64(800) {
		r := newDice(seed)
		f := r.form()
		look := secondOf(f)
		m := r.tree(f)
		for range 6 {
			g := r.turned(f)
			s := r.text(look, m)
			if r.oneIn(2) {
				s = r.spoilt(s)
			}
			if e, _ := ir.Check(g); e == ok {
				forms++
				hold(t, g, s)
				continue
			}
			none++
			refuseTree(t, "no form", g, m, api.ErrTokens)
			if got, e, at := words.Parse(g, s); e != api.ErrTokens || at != 0 || len(got) > 0 {
				t.Fatalf("P23.2: no form: Parse(%q) = %v, %v, %d", s, got, e, at)
			}
		}
	}
	if forms < 300 || none < 2000 {
		t.Errorf("only %d forms, and %d that are none", forms, none)
	}
}

// P23.1: trees with something otherwise: Print tells what value.Check tells.
func TestRandomWrongTrees(t *testing.T) {
	got := map[api.Errno]int{}
	for seed := range int64(3000) {
		r := newDice(seed)
		f := r.form()
		m := r.tree(f)
		i := r.Intn(len(m))
		v := &m[i]
		switch r.Intn(6) {
		case 0:
			v.Words = append(slices.Clone(v.Words), r.Uint64())
		case 1:
			if len(v.Words) > 0 {
				v.Words[r.Intn(len(v.Words))] = r.Uint64()
			}
		case 2:
			v.Text = strings.Repeat("x", pick(r, 1, 254, 255, 65535))
		case 3:
			*pick(r, &v.Name, &v.Text) = pick(r, "", "a", "M")
		case 4:
			v.Depth += r.Intn(3) - 1
			v.Kind = api.ValKind(r.Intn(7) - 1)
		case 5:
			m = slices.Delete(m, i, min(len(m), i+1+r.Intn(2)))
		}
		e, _ := value.Check(f, m)
		got[e]++
		if e == ok {
			holdTree(t, f, m)
			continue
		}
		refuseTree(t, "by chance", f, m, e)
	}
	for _, e := range []api.Errno{ok, api.ErrTree, api.ErrWords, api.ErrFit, api.ErrData} {
		if got[e] < 20 {
			t.Errorf("only %d were answered %v: %v", got[e], e, got)
		}
	}
}
