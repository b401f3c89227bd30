package paths_test

import (
	"iter"
	"reflect"
	"slices"
	"strings"
	"testing"
	"unsafe"

	"stencil/api"
	"stencil/paths"
)

// roomy is a list with room behind it, in which something stands.
func roomy[T any](list []T, mark T) []T {
	r := append(slices.Clone(list), mark, mark, mark)
	return r[:len(list)]
}

func roomyForm(f api.Form) api.Form {
	f = tidy(f)
	for i := range f.Tokens {
		f.Tokens[i].Const = roomy(f.Tokens[i].Const, 77)
	}
	f.Tokens = roomy(f.Tokens, api.Token{Op: api.BeginGroup, Name: "behind", Const: []uint64{7}})
	return f
}

// openedForm is a copy of all that a form's lists have, the room behind them too.
func openedForm(f api.Form) api.Form {
	f.Tokens = slices.Clone(f.Tokens[:cap(f.Tokens)])
	for i := range f.Tokens {
		f.Tokens[i].Const = slices.Clone(f.Tokens[i].Const[:cap(f.Tokens[i].Const)])
	}
	return f
}

// overwrite changes all that a form has, the room behind its lists too.
func overwrite(f api.Form) {
	ts := f.Tokens[:cap(f.Tokens)]
	for i := range ts {
		words := ts[i].Const[:cap(ts[i].Const)]
		for k := range words {
			words[k] = 99
		}
		ts[i] = api.Token{Name: "other", Const: []uint64{98}}
	}
}

func roomyCalls(cs []api.Call) []api.Call {
	cs = slices.Clone(cs)
	for i := range cs {
		cs[i].Words, cs[i].Text = roomy([]uint64{1, 2}, 77), "text"
	}
	return roomy(cs, api.Call{Kind: api.CallData, Name: "behind", Words: []uint64{7}})
}

// openedCalls is a copy of all that calls have, the room behind them too.
func openedCalls(cs []api.Call) []api.Call {
	cs = slices.Clone(cs[:cap(cs)])
	for i := range cs {
		cs[i].Words = slices.Clone(cs[i].Words[:cap(cs[i].Words)])
	}
	return cs
}

// spoil writes over a list and the room behind it.
func spoil(cs []api.Call) {
	all := cs[:cap(cs)]
	for i := range all {
		all[i] = api.Call{Kind: 9, Name: "spoiled", Words: []uint64{5}, Count: -5, Text: "spoiled"}
	}
	_ = append(cs, api.Call{Kind: 8}, api.Call{Kind: 8})
}

const (
	wide  = "a k! s+ g( x p~ h[ y e$ ; e$ ; i{ ; d$ e$"
	whole = "a s a g=2 > x h=2 > y e$ > e$ e$ > h=0 e$ i=3 > > > d$ e$"
)

// P15.1 to P15.5: nothing that is handed in is changed, nor the room behind it; what stands there is no matter.
func TestArgumentsStay(t *testing.T) {
	f := made(t, wide)
	none := made(t, wide)
	none.Tokens = none.Tokens[:len(none.Tokens)-1]
	for _, f := range []api.Form{f, none} {
		r := roomyForm(f)
		want := openedForm(r)
		said := calls(whole)
		for cut := range len(said) + 1 {
			for _, plain := range [][]api.Call{said[:cut], after(said[:cut], data("nothing")), after(said[:cut], group("g", -1))} {
				cs := roomyCalls(plain)
				were := openedCalls(cs)
				if e, at := paths.Accepts(r, cs); true {
					if err, i := paths.Accepts(f, plain); e != err || at != i {
						t.Errorf("P15.1: with room behind: %d, %d; want %d, %d", e, at, err, i)
					}
				}
				for _, ask := range []func(api.Form, []api.Call) ([]api.Call, api.Errno){paths.Next, paths.Shortest} {
					got, e := ask(r, cs)
					want, err := ask(f, plain)
					if e != err || say(got) != say(want) {
						t.Errorf("P15.2, P15.3: with room behind: %s, %d; want %s, %d", say(got), e, say(want), err)
					}
				}
				n, e := paths.Count(r, cs, 5, 2)
				if m, err := paths.Count(f, plain, 5, 2); n != m || e != err {
					t.Errorf("P15.4: with room behind: %d, %d; want %d, %d", n, e, m, err)
				}
				if !reflect.DeepEqual(openedCalls(cs), were) {
					t.Errorf("P15.1 to P15.4: changed: %v", openedCalls(cs))
				}
			}
		}
		if got := walked(r, 1); !slices.Equal(got, walked(f, 1)) {
			t.Errorf("P15.5: with room behind: %d lists", len(got))
		}
		if !reflect.DeepEqual(openedForm(r), want) {
			t.Error("P15.1 to P15.5: the form is changed")
		}
	}
}

// P15.2, P15.3: answers are new memory: they may be written over, and so may what was handed in.
func TestAnswersAreNew(t *testing.T) {
	f := made(t, wide)
	said := calls(whole)
	for cut := range len(said) + 1 {
		for _, ask := range []func(api.Form, []api.Call) ([]api.Call, api.Errno){paths.Next, paths.Shortest} {
			g, cs := roomyForm(f), roomyCalls(said[:cut])
			one, e := ask(g, cs)
			want := say(one)
			two, _ := ask(g, cs)
			were, form := openedCalls(cs), openedForm(g)
			spoil(one)
			three, _ := ask(g, cs)
			if e != ok || say(two) != want || say(three) != want || !reflect.DeepEqual(openedCalls(cs), were) || !reflect.DeepEqual(openedForm(g), form) {
				t.Errorf("P15.2, P15.3: behind %s: what is answered is shared", say(said[:cut]))
			}
			overwrite(g)
			spoil(cs)
			if say(two) != want || say(three) != want {
				t.Errorf("P15.2, P15.3: behind %s: the answer is the caller's memory", say(said[:cut]))
			}
		}
	}
}

// P15.5: a walk goes by copies: the form may be written over ahead of it and amid it, and so may each list.
func TestWalkGoesByCopies(t *testing.T) {
	f := made(t, wide)
	all := walked(f, 2)
	for _, cut := range []int{0, 1, 2, len(all) / 2, len(all) - 1} {
		g := roomyForm(f)
		walk := paths.Walk(g, 2)
		for range 2 {
			n := 0
			var kept [][]api.Call
			for cs := range walk {
				if n == cut {
					overwrite(g)
				}
				if n == len(all) || say(cs) != all[n] {
					t.Fatalf("P15.5: written over at %d: list %d: %s", cut, n, say(cs))
				}
				if n%3 == 0 {
					spoil(cs)
				} else {
					kept = append(kept, cs)
				}
				n++
			}
			if n != len(all) {
				t.Fatalf("P15.5: written over at %d: %d lists, want %d", cut, n, len(all))
			}
			for i, cs := range kept {
				if say(cs) != all[i/2*3+1+i%2] {
					t.Fatalf("P15.5: list %d has changed: %s", i, say(cs))
				}
			}
		}
	}
	g := roomyForm(f)
	walk := paths.Walk(g, 2)
	overwrite(g)
	n := 0
	for cs := range walk {
		if say(cs) != all[n] {
			t.Fatalf("P15.5: written over ahead: list %d: %s", n, say(cs))
		}
		n++
	}
	if n != len(all) {
		t.Errorf("P15.5: written over ahead: %d lists", n)
	}
}

// P15.5: several rangings go side by side, each by itself.
func TestWalksSideBySide(t *testing.T) {
	f := made(t, wide)
	all := walked(f, 1)
	walk := paths.Walk(f, 1)
	var nexts []func() ([]api.Call, bool)
	for range 3 {
		next, stop := iter.Pull(walk)
		defer stop()
		nexts = append(nexts, next)
	}
	ahead := []int{0, 0, 0}
	for step := 0; ahead[0] <= len(all); step++ {
		i := []int{0, 1, 0, 2}[step%4]
		cs, more := nexts[i]()
		if more != (ahead[i] < len(all)) || more && say(cs) != all[ahead[i]] {
			t.Fatalf("P15.5: ranging %d: list %d: %s, %v", i, ahead[i], say(cs), more)
		}
		ahead[i]++
	}
	// What a caller's loop panics with passes through, and leaves nothing behind.
	func() {
		defer func() {
			if recover() != "mine" {
				t.Error("P15.5: the caller's panic is lost")
			}
		}()
		for range walk {
			panic("mine")
		}
	}()
	for cs := range walk {
		if say(cs) != all[0] {
			t.Errorf("P15.5: behind a panic: %s", say(cs))
		}
		break
	}
}

// within tells whether a text lies in another one's memory.
func within(s, whole string) bool {
	if s == "" || whole == "" {
		return false
	}
	at, from := uintptr(unsafe.Pointer(unsafe.StringData(s))), uintptr(unsafe.Pointer(unsafe.StringData(whole)))
	return at >= from && at < from+uintptr(len(whole))
}

// P15.2, P15.3, P15.5: no text of what is handed in is kept in an answer.
func TestTextsAreNew(t *testing.T) {
	f := made(t, wide)
	// All names in one text, so that what is kept of them shows.
	var joined strings.Builder
	for _, x := range f.Tokens {
		joined.WriteString(x.Name)
	}
	names, from := joined.String(), 0
	for i, x := range f.Tokens {
		f.Tokens[i].Name, from = names[from:from+len(x.Name)], from+len(x.Name)
	}
	said := strings.Clone(whole)
	check := func(cs []api.Call) {
		t.Helper()
		for _, c := range cs {
			if within(c.Name, names) || within(c.Name, said) {
				t.Fatalf("P15.2, P15.3, P15.5: the name %q is the caller's own", c.Name)
			}
		}
	}
	cs := calls(said)
	for cut := range len(cs) + 1 {
		one, _ := paths.Next(f, cs[:cut])
		check(one)
		two, _ := paths.Shortest(f, cs[:cut])
		check(two)
	}
	for cs := range paths.Walk(f, 1) {
		check(cs)
	}
}
