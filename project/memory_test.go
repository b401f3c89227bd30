package project_test

import (
	"fmt"
	"reflect"
	"slices"
	"strings"
	"testing"
	"unsafe"

	"stencil/api"
	"stencil/ir"
	"stencil/project"
)

// roomy is a list with room behind it, in which something stands.
func roomy[T any](list []T, mark T) []T {
	r := append(slices.Clone(list), mark, mark, mark)
	return r[:len(list)]
}

func roomyForm(f api.Form) api.Form {
	f = tidy(f)
	for i := range f.Tokens {
		f.Tokens[i].Const = roomy(f.Tokens[i].Const, 77)
	}
	f.Tokens = roomy(f.Tokens, api.Token{Op: api.BeginGroup, Name: "behind", Const: []uint64{7}})
	return f
}

// openedForm is a copy of all that a form's lists have, the room behind them too.
func openedForm(f api.Form) api.Form {
	f.Tokens = slices.Clone(f.Tokens[:cap(f.Tokens)])
	for i := range f.Tokens {
		f.Tokens[i].Const = slices.Clone(f.Tokens[i].Const[:cap(f.Tokens[i].Const)])
	}
	return f
}

// overwriteRoom changes the room behind a form's lists.
func overwriteRoom(f api.Form) {
	for _, t := range f.Tokens {
		for k := len(t.Const); k < cap(t.Const); k++ {
			t.Const[:cap(t.Const)][k] = 99
		}
	}
	for k := len(f.Tokens); k < cap(f.Tokens); k++ {
		f.Tokens[:cap(f.Tokens)][k] = api.Token{Name: "other"}
	}
}

// overwrite changes all that a form has, the room behind its lists too.
func overwrite(f api.Form) {
	ts := f.Tokens[:cap(f.Tokens)]
	for i := range ts {
		words := ts[i].Const[:cap(ts[i].Const)]
		for k := range words {
			words[k] = 99
		}
		ts[i] = api.Token{Name: "other", Const: []uint64{98}}
	}
}

// P13.6: nothing that is handed in is changed, nor the room behind it; what stands there is no matter.
func TestArgumentsStay(t *testing.T) {
	short := grown()
	short.Tokens = short.Tokens[:len(short.Tokens)-1]
	for _, f := range []api.Form{chapterForm(t), grown(), short, {}} {
		r, want := roomyForm(f), openedForm(roomyForm(f))
		for version := -1; version <= 6; version++ {
			g, e := project.At(r, version)
			if h, err := project.At(f, version); e != err || !alike(g, h) {
				t.Errorf("P13.6: At(%d) with room behind: error %d, want %d", version, e, err)
			}
			for i := -1; i <= len(f.Tokens)+3; i++ {
				if project.Lives(r, i, version) != project.Lives(f, i, version) {
					t.Errorf("P13.6: Lives(%d, %d) with room behind", i, version)
				}
			}
		}
		if !slices.Equal(project.Versions(r), project.Versions(f)) {
			t.Errorf("P13.6: Versions with room behind: %v", project.Versions(r))
		}
		if !project.Same(r, f) || !project.Same(f, r) || !project.Same(r, r) {
			t.Error("P13.6: Same with room behind")
		}
		if !reflect.DeepEqual(openedForm(r), want) {
			t.Errorf("P13.6: changed:\n%swant\n%s", list(openedForm(r)), list(want))
		}
	}
}

// P13.6: answers share no memory with what was handed in, nor with one another.
func TestAnswersAreNew(t *testing.T) {
	for version := 1; version <= 4; version++ {
		f := grown()
		want := at(t, f, version)
		one, two := at(t, f, version), at(t, f, version)
		overwrite(one)
		if !alike(two, want) || !alike(at(t, f, version), want) {
			t.Errorf("P13.6: two answers of At(%d) share memory", version)
		}
		if !alike(f, grown()) {
			t.Errorf("P13.6: what At(%d) answers shares memory with the form", version)
		}
		overwrite(f)
		if !alike(two, want) {
			t.Errorf("P13.6: what At(%d) answers has memory of the form's", version)
		}
		// The lists of one form: each Const by itself.
		for i := range two.Tokens {
			words := two.Tokens[i].Const[:cap(two.Tokens[i].Const)]
			for k := range words {
				words[k] = uint64(1000 + i)
			}
		}
		for i, x := range two.Tokens {
			for _, w := range x.Const[:cap(x.Const)] {
				if w != uint64(1000+i) {
					t.Errorf("P13.6: the Const of %d is that of %d too", i, w-1000)
				}
			}
		}
	}
	f := grown()
	one, two := project.Versions(f), project.Versions(f)
	for i := range one[:cap(one)] {
		one[:cap(one)][i] = -9
	}
	if !slices.Equal(two, []int{1, 2, 3, 4}) || !slices.Equal(project.Versions(f), two) {
		t.Error("P13.6: two answers of Versions share memory")
	}
}

// within tells whether a text lies in another one's memory.
func within(s, whole string) bool {
	if s == "" || whole == "" {
		return false
	}
	at, from := uintptr(unsafe.Pointer(unsafe.StringData(s))), uintptr(unsafe.Pointer(unsafe.StringData(whole)))
	return at >= from && at < from+uintptr(len(whole))
}

// P13.6: no text that is handed in is kept in an answer.
func TestTextsAreNew(t *testing.T) {
	f := grown()
	// All names in one text, so that what is kept of them shows.
	var joined strings.Builder
	for _, x := range f.Tokens {
		joined.WriteString(x.Name)
	}
	names, from := joined.String(), 0
	for i, x := range f.Tokens {
		f.Tokens[i].Name, from = names[from:from+len(x.Name)], from+len(x.Name)
	}
	for version := 1; version <= 4; version++ {
		for i, x := range at(t, f, version).Tokens {
			if within(x.Name, names) {
				t.Errorf("P13.6: the name %q of %d is the form's own", x.Name, i)
			}
		}
	}
}

// P13.6: every call ends soon, of a form with many parts, groups, Choices and versions.
func TestManyOfAll(t *testing.T) {
	var choices, members, fields, groups, many [][]api.Token
	for i := range 60000 {
		choices = append(choices, []api.Token{choice(fmt.Sprint("v", i), uint64(i), i)})
	}
	for range 20000 {
		members = append(members, []api.Token{fixed("m", api.Uint8, 0, 1)})
	}
	u8 := coding("uint8", api.Uint8, 0)
	for i := range 20000 {
		fields = append(fields, optional(fmt.Sprint("f", i), 100+i, 2+i, i, u8))
		groups = append(groups, group(fmt.Sprint("g", i), 30000+i, i, 1, 1, optional("x", 50100+i%15000, 0, i, u8)))
	}
	enum := around(api.Token{Op: api.BeginEnum, Name: "E", Size: 2}, append([][]api.Token{{coding("coding", api.Uint16, 0)}}, choices...)...)
	many = append(many, optional("e", 1, 0, 0, enum...), optional("c", 2, 0, 0, around(api.Token{Op: api.BeginComposite, Name: "C"}, members...)...))
	many = append(append(many, fields...), groups[:15000]...)
	f := formOf(40000, around(api.Token{Op: api.BeginMessage, Name: "M", Block: 30000, Full: 30000}, many...))
	if e, i := ir.Check(f); e != api.OK {
		t.Fatalf("no form: %d, %d: %+v", e, i, f.Tokens[i])
	}
	if got := project.Versions(f); len(got) != 40001 || got[0] != 0 || got[40000] != 40000 || !slices.IsSorted(got) {
		t.Errorf("P13.3: %d versions", len(got))
	}
	for _, version := range []int{0, 1, 10000, 19999, 40000} {
		g := at(t, f, version)
		block := 2 + version + 1
		if version >= 19999 {
			block = 30000
		}
		want := 2 + 5 + (version + 1) + 4 + 20000 + 3*min(version+1, 20000) + 5*min(version+1, 15000)
		if len(g.Tokens) != want || g.Tokens[0].Block != block {
			t.Errorf("P13.1: At(%d): %d tokens, want %d; block %d, want %d", version, len(g.Tokens), want, g.Tokens[0].Block, block)
		}
		if !project.Same(at(t, g, version), g) || project.Same(f, g) {
			t.Errorf("P13.4, P13.5: At(%d) of itself", version)
		}
	}
	last := len(f.Tokens) - 1
	if !project.Lives(f, last, 0) || project.Lives(f, last-1, 14998) || !project.Lives(f, last-1, 14999) {
		t.Error("P13.2: Lives")
	}
}
