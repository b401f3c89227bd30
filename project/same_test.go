package project_test

import (
	"fmt"
	"reflect"
	"testing"

	"stencil/api"
	"stencil/project"
)

// wantSame asks Same both ways.
func wantSame(t *testing.T, what string, f, g api.Form, want bool) {
	t.Helper()
	if project.Same(f, g) != want || project.Same(g, f) != want {
		t.Errorf("P13.4: %s: %v, %v, want %v", what, project.Same(f, g), project.Same(g, f), want)
	}
	if alike(f, g) != want {
		t.Fatalf("%s: the test is wrong", what)
	}
}

// unlike hands each value that differs from x in one thing alone to a function, with its name. Lists get another element, one more and one fewer.
func unlike(x reflect.Value, name string, see func(name string)) {
	switch x.Kind() {
	case reflect.Struct:
		for i := range x.NumField() {
			unlike(x.Field(i), name+"."+x.Type().Field(i).Name, see)
		}
	case reflect.Slice:
		if x.Len() > 0 {
			unlike(x.Index(0), name+"[first]", see)
			unlike(x.Index(x.Len()-1), name+"[last]", see)
			unlike(x.Index(x.Len()/2), name+"[middle]", see)
		}
		was := reflect.ValueOf(x.Interface())
		x.Set(reflect.Append(was.Slice3(0, was.Len(), was.Len()), reflect.Zero(x.Type().Elem())))
		see(name + " with one more")
		if was.Len() > 0 {
			x.Set(was.Slice(0, was.Len()-1))
			see(name + " with one fewer")
			x.Set(was.Slice(1, was.Len()))
			see(name + " without the first")
			x.Set(reflect.Zero(x.Type()))
			see(name + " nil")
		}
		x.Set(was)
	case reflect.String:
		was := x.String()
		for _, s := range []string{was + "x", "x" + was, "", "\xff"} {
			if s != was {
				x.SetString(s)
				see(fmt.Sprintf("%s %q", name, s))
			}
		}
		x.SetString(was)
	case reflect.Uint64:
		was := x.Uint()
		for _, w := range []uint64{was + 1, was - 1, was + 1<<32, was ^ 1<<63} {
			x.SetUint(w)
			see(fmt.Sprintf("%s %d", name, w))
		}
		x.SetUint(was)
	default:
		was := x.Int()
		for _, n := range []int64{was + 1, was - 1, -1 - was, was + 1<<32, was ^ -1<<63} {
			x.SetInt(n)
			see(fmt.Sprintf("%s %d", name, n))
		}
		x.SetInt(was)
	}
}

// wantUnlike asks of each thing that a form has whether another one makes another form.
func wantUnlike(t *testing.T, f api.Form) int {
	t.Helper()
	g, seen := tidy(f), 0
	unlike(reflect.ValueOf(&g).Elem(), "form", func(name string) {
		seen++
		wantSame(t, name, f, g, false)
	})
	wantSame(t, "as it was", f, g, true)
	return seen
}

// P13.4: each field of a form and of a token, spots and words too, unlike on its own.
func TestSameByFields(t *testing.T) {
	// A token with all fields set, though none is so in a form.
	full := api.Token{Op: 3, Name: "a", ID: 1, Offset: 2, Size: 3, Since: 4, Prim: 5, Length: 6, Presence: 1, Null: 7, Min: 8, Max: 9, Const: []uint64{1, 2, 3}, Value: 10, Block: 11, Full: 12, A: spot(1, 2), B: spot(3, 4), Pair: 13}
	other := full
	other.Const = []uint64{4}
	f := formOf(3)
	f.Tokens = []api.Token{full, {}, other}
	if seen := wantUnlike(t, f); seen < 250 {
		t.Errorf("%d alone were asked", seen)
	}
	wantUnlike(t, api.Form{})
	wantUnlike(t, chapterForm(t))
	f = grown()
	for i := range f.Tokens {
		g := tidy(f)
		unlike(reflect.ValueOf(&g.Tokens[i]).Elem(), fmt.Sprint(i), func(name string) { wantSame(t, name, f, g, false) })
	}
}

// P13.4: nil and empty lists are the same, wherever they stand.
func TestSameOfEmptyLists(t *testing.T) {
	empty := func(f api.Form) api.Form {
		f = tidy(f)
		if len(f.Tokens) == 0 {
			f.Tokens = []api.Token{}
		}
		for i := range f.Tokens {
			if len(f.Tokens[i].Const) == 0 {
				f.Tokens[i].Const = make([]uint64, 0, 3)
			}
		}
		return f
	}
	for _, f := range []api.Form{{}, formOf(1), grown(), chapterForm(t), {Tokens: []api.Token{{}, {Op: -1}}}} {
		wantSame(t, "nil and empty", tidy(f), empty(f), true)
		wantSame(t, "empty and empty", empty(f), empty(f), true)
		wantSame(t, "nil and nil", tidy(f), tidy(f), true)
	}
	one := api.Form{Tokens: []api.Token{{}}}
	wantSame(t, "no token and one that is zero", api.Form{}, one, false)
	wantSame(t, "none and one that is zero, empty", api.Form{Tokens: []api.Token{}}, one, false)
	zero := api.Form{Tokens: []api.Token{{Const: []uint64{0}}}}
	wantSame(t, "no word and the word 0", one, zero, false)
}

// P13.4: lists of the same tokens in another order, and one that begins the other.
func TestSameOfLists(t *testing.T) {
	f := grown()
	g := tidy(f)
	g.Tokens[1], g.Tokens[4] = g.Tokens[4], g.Tokens[1]
	wantSame(t, "two tokens for each other", f, g, false)
	for n := range f.Tokens {
		g := tidy(f)
		g.Tokens = g.Tokens[:n]
		wantSame(t, fmt.Sprint("the first ", n), f, g, false)
	}
	wantSame(t, "the chapter's and another", f, chapterForm(t), false)
	// What stands behind a list is none of it.
	a, b := roomyForm(f), roomyForm(f)
	overwriteRoom(a)
	wantSame(t, "other room behind", a, b, true)
}
