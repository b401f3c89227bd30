package words_test

import (
	"fmt"
	"testing"

	"stencil/api"
	"stencil/value"
	"stencil/words"
)

// short is a text's beginning, for a report.
func short(s string) string {
	if len(s) > 200 {
		return fmt.Sprintf("%.200q.. (%d bytes)", s, len(s))
	}
	return fmt.Sprintf("%q", s)
}

// hold asks that Parse of a text answers what the second look does, and, if it is a tree, all that follows of it. It answers Parse's error.
func hold(t testing.TB, f api.Form, s string) api.Errno {
	t.Helper()
	return holdBy(t, secondOf(f), s)
}

func holdBy(t testing.TB, look *second, s string) api.Errno {
	t.Helper()
	want, wantErr, wantAt := look.parse(s)
	m, e, at := words.Parse(look.f, s)
	if e != wantErr || at != wantAt || !value.Same(m, want) {
		t.Fatalf("P23.2: Parse(%s) = %v, %v, %d\nwant %v, %v, %d", short(s), m, e, at, want, wantErr, wantAt)
	}
	if e == ok {
		holdTreeBy(t, look, m)
	}
	return e
}

// holdTree asks that Print tells a tree of a form as the second look does, and that Parse of it is the tree.
func holdTree(t testing.TB, f api.Form, m []api.Val) {
	t.Helper()
	if e, i := value.Check(f, m); e != ok {
		t.Fatalf("P23.2: no tree: %v at %d", e, i)
	}
	holdTreeBy(t, secondOf(f), m)
}

func holdTreeBy(t testing.TB, look *second, m []api.Val) {
	t.Helper()
	s, e := words.Print(look.f, m)
	if want := look.print(m); e != ok || s != want {
		t.Fatalf("P23.1: Print = %s, %v\nwant %s", short(s), e, short(want))
	}
	if back, e, at := words.Parse(look.f, s); e != ok || at != 0 || !value.Same(back, m) {
		t.Fatalf("P23.3: Parse of what Print prints, %s = %v, %v, %d\nwant %v", short(s), back, e, at, m)
	}
}

// says asks that a text is read, and is printed as another one; and that this one is printed as itself.
func says(t testing.TB, f api.Form, s, want string) {
	t.Helper()
	for _, s := range []string{s, want} {
		m, e, at := words.Parse(f, s)
		if e != ok || at != 0 {
			t.Errorf("P23.2: Parse(%s) = %v, %d", short(s), e, at)
			return
		}
		if got, e := words.Print(f, m); e != ok || got != want {
			t.Errorf("P23.3: Print of Parse(%s) = %s, %v\nwant %s", short(s), short(got), e, short(want))
		}
	}
	hold(t, f, s)
}

// is asks that a tree is printed as a text, and that the text is read as the tree.
func is(t testing.TB, f api.Form, m []api.Val, want string) {
	t.Helper()
	if got, e := words.Print(f, m); e != ok || got != want {
		t.Errorf("P23.1: Print = %s, %v\nwant %s", short(got), e, short(want))
	}
	if got, e, at := words.Parse(f, want); e != ok || at != 0 || !value.Same(got, m) {
		t.Errorf("P23.2: Parse(%s) = %v, %v, %d\nwant %v", short(want), got, e, at, m)
	}
	holdTree(t, f, m)
}

// refuse asks that Parse answers an error and its place, with nothing beside them.
func refuse(t testing.TB, f api.Form, s string, want api.Errno, place int) {
	t.Helper()
	if m, e, at := words.Parse(f, s); e != want || at != place || len(m) != 0 {
		t.Errorf("P23.2: Parse(%s) = %v, %v, %d; want %v, %d", short(s), m, e, at, want, place)
		return
	}
	hold(t, f, s)
}

// refuseTree asks that Print answers an error alone.
func refuseTree(t testing.TB, what string, f api.Form, m []api.Val, want api.Errno) {
	t.Helper()
	if s, e := words.Print(f, m); e != want || s != "" {
		t.Errorf("P23.1: %s: Print = %s, %v; want %v", what, short(s), e, want)
	}
	if e, _ := value.Check(f, m); e != want {
		t.Errorf("%s: value.Check = %v; want %v", what, e, want)
	}
}
