package value_test

import (
	"fmt"
	"reflect"
	"slices"
	"strings"
	"testing"
	"unsafe"

	"stencil/api"
	"stencil/value"
)

// roomy is a list with room behind it, in which something stands.
func roomy[T any](list []T, mark T) []T {
	r := append(slices.Clone(list), mark, mark, mark)
	return r[:len(list)]
}

func roomyForm(f api.Form) api.Form {
	f = tidy(f)
	for i := range f.Tokens {
		f.Tokens[i].Const = roomy(f.Tokens[i].Const, 77)
	}
	f.Tokens = roomy(f.Tokens, api.Token{Op: api.BeginGroup, Name: "behind", Const: []uint64{7}})
	return f
}

// openedForm is a copy of all that a form's lists have, the room behind them too.
func openedForm(f api.Form) api.Form {
	f.Tokens = slices.Clone(f.Tokens[:cap(f.Tokens)])
	for i := range f.Tokens {
		f.Tokens[i].Const = slices.Clone(f.Tokens[i].Const[:cap(f.Tokens[i].Const)])
	}
	return f
}

func overwriteForm(f api.Form) {
	ts := f.Tokens[:cap(f.Tokens)]
	for i := range ts {
		words := ts[i].Const[:cap(ts[i].Const)]
		for k := range words {
			words[k] = 99
		}
		ts[i] = api.Token{Name: "other", Const: []uint64{98}}
	}
}

func roomyNodes(m []api.Val) []api.Val {
	m = slices.Clone(m)
	for i := range m {
		m[i].Words = roomy(m[i].Words, 77)
	}
	return roomy(m, api.Val{Depth: 2, Kind: api.ValData, Name: "d", Words: []uint64{7}})
}

func openedNodes(m []api.Val) []api.Val {
	m = slices.Clone(m[:cap(m)])
	for i := range m {
		m[i].Words = slices.Clone(m[i].Words[:cap(m[i].Words)])
	}
	return m
}

// spoilNodes writes over a list, its nodes' words and the room behind them all.
func spoilNodes(m []api.Val) {
	all := m[:cap(m)]
	for i := range all {
		words := all[i].Words[:cap(all[i].Words)]
		for k := range words {
			words[k] = 55
		}
		_ = append(all[i].Words, 56, 57)
		all[i] = api.Val{Depth: -5, Kind: 9, Name: "spoiled", Words: []uint64{5}, Text: "spoiled"}
	}
	_ = append(m, api.Val{Kind: 8}, api.Val{Kind: 8})
}

func roomyCalls(cs []api.Call) []api.Call {
	cs = slices.Clone(cs)
	for i := range cs {
		cs[i].Words = roomy(cs[i].Words, 77)
	}
	return roomy(cs, api.Call{Kind: api.CallData, Name: "d", Words: []uint64{7}})
}

func openedCalls(cs []api.Call) []api.Call {
	cs = slices.Clone(cs[:cap(cs)])
	for i := range cs {
		cs[i].Words = slices.Clone(cs[i].Words[:cap(cs[i].Words)])
	}
	return cs
}

func spoilCalls(cs []api.Call) {
	all := cs[:cap(cs)]
	for i := range all {
		words := all[i].Words[:cap(all[i].Words)]
		for k := range words {
			words[k] = 55
		}
		_ = append(all[i].Words, 56, 57)
		all[i] = api.Call{Kind: 9, Name: "spoiled", Words: []uint64{5}, Count: -5, Text: "spoiled"}
	}
	_ = append(cs, api.Call{Kind: 8}, api.Call{Kind: 8})
}

// answers are all that the calls answer, as one text.
func answers(f api.Form, m, n []api.Val, cs []api.Call) string {
	var b strings.Builder
	e, at := value.Check(f, m)
	size, err := value.Size(f, m)
	fmt.Fprintln(&b, e, at, size, err, value.Odd(f, m), value.Same(m, n), value.Same(n, m))
	nulls, e := value.Nulls(f)
	fmt.Fprintln(&b, e, show(nulls))
	back, e := value.Tree(f, cs)
	fmt.Fprintln(&b, e, show(back))
	told, e := value.Calls(f, m)
	fmt.Fprintln(&b, e, showCalls(told))
	for from := 0; from <= f.Version; from++ {
		for to := 0; to <= f.Version; to++ {
			seen, e := value.Project(f, m, from, to)
			fmt.Fprintln(&b, e, show(seen))
		}
	}
	return b.String()
}

// P16.10: nothing that is handed in is changed, nor the room behind it; what stands there is no matter.
func TestArgumentsStay(t *testing.T) {
	f := grown(t)
	none := grown(t)
	none.Tokens = none.Tokens[:len(none.Tokens)-1]
	for _, f := range []api.Form{f, none} {
		for version := 1; version <= 5; version++ {
			m := tree(grownTrees()[version])
			cs, _ := value.Calls(grown(t), tree(grownTrees()[5]))
			for cut := range 4 {
				plain, said := m[:len(m)-cut], cs[:len(cs)-cut]
				form, nodes, others, told := roomyForm(f), roomyNodes(plain), roomyNodes(plain), roomyCalls(said)
				wantForm, wantNodes, wantCalls := openedForm(form), openedNodes(nodes), openedCalls(told)
				if got, want := answers(form, nodes, others, told), answers(f, plain, plain, said); got != want {
					t.Errorf("P16.10: with room behind: %s\nwant\n%s", got, want)
				}
				if !reflect.DeepEqual(openedForm(form), wantForm) {
					t.Error("P16.10: the form is changed")
				}
				if !reflect.DeepEqual(openedNodes(nodes), wantNodes) || !reflect.DeepEqual(openedNodes(others), wantNodes) {
					t.Error("P16.10: the nodes are changed")
				}
				if !reflect.DeepEqual(openedCalls(told), wantCalls) {
					t.Error("P16.10: the calls are changed")
				}
			}
		}
	}
}

// treesOf are the calls that answer a tree.
func treesOf() []func(f api.Form, m []api.Val, cs []api.Call) []api.Val {
	only := func(m []api.Val, e api.Errno) []api.Val {
		if e != ok {
			panic(e)
		}
		return m
	}
	return []func(f api.Form, m []api.Val, cs []api.Call) []api.Val{
		func(f api.Form, m []api.Val, cs []api.Call) []api.Val { return only(value.Nulls(f)) },
		func(f api.Form, m []api.Val, cs []api.Call) []api.Val { return only(value.Tree(f, cs)) },
		func(f api.Form, m []api.Val, cs []api.Call) []api.Val { return only(value.Project(f, m, 3, 5)) },
		func(f api.Form, m []api.Val, cs []api.Call) []api.Val { return only(value.Project(f, m, 3, 3)) },
		func(f api.Form, m []api.Val, cs []api.Call) []api.Val { return only(value.Project(f, m, 3, 1)) },
	}
}

// saidOfGrown are calls with fields that are set, set twice, and not set.
const saidOfGrown = "c:1,2,3 a:1 c:4,5,6 g=2 > x:1 h=2 > z:1,2 z:3,4 n$ > n$n m$ > h=0 m$ i=1 > v:5 j$j d$ e$ee"

// P16.10: answers are new memory: no two lists of one answer share any, no two answers do, and none shares any with what was handed in.
func TestAnswersAreNew(t *testing.T) {
	for number, ask := range treesOf() {
		f, m, cs := roomyForm(grown(t)), roomyNodes(tree(grownTrees()[3])), roomyCalls(calls(saidOfGrown))
		form, nodes, told := openedForm(f), openedNodes(m), openedCalls(cs)
		one, two := ask(f, m, cs), ask(f, m, cs)
		want := show(one)
		spoilNodes(one)
		three := ask(f, m, cs)
		if show(two) != want || show(three) != want {
			t.Errorf("P16.10: call %d: two answers share memory", number)
		}
		if !reflect.DeepEqual(openedForm(f), form) || !reflect.DeepEqual(openedNodes(m), nodes) || !reflect.DeepEqual(openedCalls(cs), told) {
			t.Errorf("P16.10: call %d: the answer shares memory with what was handed in", number)
		}
		overwriteForm(f)
		spoilNodes(m)
		spoilCalls(cs)
		if show(two) != want {
			t.Errorf("P16.10: call %d: the answer is the caller's memory", number)
		}
		// The words of the nodes of one answer, each by itself.
		for i := range two {
			words := two[i].Words[:cap(two[i].Words)]
			for k := range words {
				words[k] = uint64(1000 + i)
			}
		}
		for i, v := range two {
			for _, w := range v.Words[:cap(v.Words)] {
				if w != uint64(1000+i) {
					t.Errorf("P16.10: call %d: the words of %d are those of %d too", number, i, w-1000)
				}
			}
		}
	}
	f, m := roomyForm(grown(t)), roomyNodes(tree(grownTrees()[5]))
	nodes := openedNodes(m)
	one, _ := value.Calls(f, m)
	two, _ := value.Calls(f, m)
	want := showCalls(one)
	spoilCalls(one)
	if showCalls(two) != want || !reflect.DeepEqual(openedNodes(m), nodes) {
		t.Error("P16.10: what Calls answers is shared")
	}
	overwriteForm(f)
	spoilNodes(m)
	if showCalls(two) != want {
		t.Error("P16.10: what Calls answers is the caller's memory")
	}
	for i := range two {
		words := two[i].Words[:cap(two[i].Words)]
		for k := range words {
			words[k] = uint64(1000 + i)
		}
	}
	for i, c := range two {
		for _, w := range c.Words[:cap(c.Words)] {
			if w != uint64(1000+i) {
				t.Errorf("P16.10: the words of the call %d are those of %d too", i, w-1000)
			}
		}
	}
	f, m = chapter(t), tree("M a=255 b=1 c=1 g{ - x=255 e$ } d$")
	first, second := value.Odd(f, m), value.Odd(f, m)
	for i := range first[:cap(first)] {
		first[:cap(first)][i] = -9
	}
	if !slices.Equal(second, []int{1, 6}) || !slices.Equal(value.Odd(f, m), second) {
		t.Errorf("P16.10: two answers of Odd share memory: %d", second)
	}
}

// inside tells whether a text lies in another one's memory.
func inside(s, whole string) bool {
	if s == "" || whole == "" {
		return false
	}
	at, from := uintptr(unsafe.Pointer(unsafe.StringData(s))), uintptr(unsafe.Pointer(unsafe.StringData(whole)))
	return at >= from && at < from+uintptr(len(whole))
}

// P16.10: no text that is handed in is kept in an answer.
func TestTextsAreNew(t *testing.T) {
	f := grown(t)
	// All names of the form in one text, so that what is kept of them shows; and all of the nodes and of the calls in theirs.
	var joined strings.Builder
	for _, x := range f.Tokens {
		joined.WriteString(x.Name)
	}
	names, from := joined.String(), 0
	for i, x := range f.Tokens {
		f.Tokens[i].Name, from = names[from:from+len(x.Name)], from+len(x.Name)
	}
	nodes, said := strings.Clone(grownTrees()[3]), strings.Clone(saidOfGrown)
	m, cs := tree(nodes), calls(said)
	check := func(name, text string) {
		t.Helper()
		for _, whole := range []string{names, nodes, said} {
			if inside(name, whole) || inside(text, whole) {
				t.Fatalf("P16.10: %q or %q is the caller's own", name, text)
			}
		}
	}
	texts := 0
	for _, ask := range treesOf() {
		for _, v := range ask(f, m, cs) {
			check(v.Name, v.Text)
			texts += len(v.Text)
		}
	}
	nodes = strings.Clone(grownTrees()[5])
	told, e := value.Calls(f, tree(nodes))
	if e != ok || texts == 0 {
		t.Fatalf("P16.5: Calls: %d; texts %d", e, texts)
	}
	for _, c := range told {
		check(c.Name, c.Text)
	}
}
