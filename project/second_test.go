package project_test

import (
	"slices"
	"testing"

	"stencil/api"
	"stencil/ir"
	"stencil/project"
)

// A second one of each call, out of the chapter's words, one by one, with no regard to time.

// sinceOf is the Since of a token.
func sinceOf(t api.Token) int {
	switch t.Op {
	case api.BeginMessage, api.BeginField, api.BeginGroup, api.BeginData, api.Choice:
		return t.Since
	}
	return 0
}

// cameOf is when the token at i came, by all tokens from which to their Pair it stands.
func cameOf(f api.Form, i int) int {
	came := sinceOf(f.Tokens[i])
	for k := range i + 1 {
		if f.Tokens[k].Pair >= i {
			came = max(came, sinceOf(f.Tokens[k]))
		}
	}
	return came
}

func secondLives(f api.Form, i, version int) bool {
	e, _ := ir.Check(f)
	return e == api.OK && i >= 0 && i < len(f.Tokens) && cameOf(f, i) <= version
}

func secondVersions(f api.Form) []int {
	if e, _ := ir.Check(f); e != api.OK {
		return nil
	}
	var came, out []int
	for i := range f.Tokens {
		came = append(came, cameOf(f, i))
	}
	for version := f.Tokens[0].Since; version <= f.Version; version++ {
		if slices.Contains(came, version) {
			out = append(out, version)
		}
	}
	return out
}

func secondAt(f api.Form, version int) (api.Form, api.Errno) {
	if e, _ := ir.Check(f); e != api.OK {
		return api.Form{}, api.ErrTokens
	}
	if version < f.Tokens[0].Since || version > f.Version {
		return api.Form{}, api.ErrVersion
	}
	var stay []int
	for i := range f.Tokens {
		if cameOf(f, i) <= version {
			stay = append(stay, i)
		}
	}
	g := f
	g.Version, g.Tokens = version, nil
	for _, i := range stay {
		t := f.Tokens[i]
		t.Pair = slices.Index(stay, t.Pair)
		for _, k := range slices.Backward(slices.Collect(ir.Parts(f, i))) {
			if field := f.Tokens[k]; field.Op == api.BeginField && field.Size != 0 && cameOf(f, k) > version {
				t.Block = field.Offset
			}
		}
		g.Tokens = append(g.Tokens, t)
	}
	return g, api.OK
}

// hold holds all calls of a value against the second ones, and tells whether it is a form.
func hold(t testing.TB, f api.Form) bool {
	t.Helper()
	least, greatest := -1, f.Version+2
	if greatest > 20 || greatest < 0 {
		greatest = 3
	}
	for version := least; version <= greatest; version++ {
		g, e := project.At(f, version)
		h, want := secondAt(f, version)
		if e != want || !alike(g, h) {
			t.Fatalf("P13.1: At(%d): error %d, want %d\n%s\nat the version\n%s\nwant\n%s", version, e, want, list(f), list(g), list(h))
		}
		for i := -1; i <= len(f.Tokens); i++ {
			if got := project.Lives(f, i, version); got != secondLives(f, i, version) {
				t.Fatalf("P13.2: Lives(%d, %d) = %v\n%s", i, version, got, list(f))
			}
			if len(f.Tokens) > 40 {
				i += 7 // each one goes through the whole list
			}
		}
	}
	if got, want := project.Versions(f), secondVersions(f); !slices.Equal(got, want) {
		t.Fatalf("P13.3: Versions %v, want %v\n%s", got, want, list(f))
	}
	e, _ := ir.Check(f)
	return e == api.OK
}

// follows asks of a form all that P13.5 says.
func follows(t testing.TB, f api.Form) {
	t.Helper()
	first, versions := f.Tokens[0].Since, project.Versions(f)
	var ahead api.Form
	for version := first; version <= f.Version; version++ {
		g := at(t, f, version)
		for w := first; w <= version; w++ {
			if !alike(at(t, g, w), at(t, f, w)) {
				t.Fatalf("P13.5: At(%d) of At(%d) is another\n%s", w, version, list(f))
			}
		}
		refuses(t, g, version+1, api.ErrVersion)
		refuses(t, g, first-1, api.ErrVersion)
		reaches(t, g)
		if version > first {
			h := ahead
			h.Version = version
			if alike(g, h) == slices.Contains(versions, version) {
				t.Fatalf("P13.5: At(%d) and At(%d) differ: %v; Versions %v\n%s", version, version-1, !alike(g, h), versions, list(f))
			}
			shorter(t, ahead, g)
		}
		ahead = g
	}
	whole(t, f)
}

// reaches: a block is at least as long as its fields reach.
func reaches(t testing.TB, f api.Form) {
	t.Helper()
	for i, x := range f.Tokens {
		for k := range ir.Parts(f, i) {
			if p := f.Tokens[k]; p.Op == api.BeginField && p.Offset+p.Size > x.Block {
				t.Fatalf("P13.5: the block of %s ends ahead of %s\n%s", x.Name, p.Name, list(f))
			}
		}
	}
}

// shorter: of a lower version no block is longer. IDs tell the groups.
func shorter(t testing.TB, lower, upper api.Form) {
	t.Helper()
	blocks := map[int]int{}
	for _, x := range upper.Tokens {
		if x.Op == api.BeginGroup {
			blocks[x.ID] = x.Block
		}
	}
	if lower.Tokens[0].Block > upper.Tokens[0].Block {
		t.Fatalf("P13.5: the message's block was longer\n%s%s", list(lower), list(upper))
	}
	for _, x := range lower.Tokens {
		if x.Op == api.BeginGroup && x.Block > blocks[x.ID] {
			t.Fatalf("P13.5: the block of %s was longer\n%s%s", x.Name, list(lower), list(upper))
		}
	}
}

// whole: at its own version a form has all its tokens, but Choices that came later, and its blocks.
func whole(t testing.TB, f api.Form) {
	t.Helper()
	want := tidy(f)
	want.Tokens = slices.DeleteFunc(want.Tokens, func(x api.Token) bool { return x.Op == api.Choice && x.Since > f.Version })
	want.Tokens = paired(want.Tokens...)
	if g := at(t, f, f.Version); !alike(g, want) {
		t.Fatalf("P13.5: At(%d):\n%swant\n%s", f.Version, list(g), list(want))
	}
}

// P13.1 to P13.3, P13.5 of the forms that other tests have by hand.
func TestSecond(t *testing.T) {
	for _, f := range []api.Form{chapterForm(t), grown()} {
		if !hold(t, f) {
			t.Fatalf("no form:\n%s", list(f))
		}
		follows(t, f)
	}
	hold(t, api.Form{})
}
