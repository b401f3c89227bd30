package order_test

import (
	"fmt"
	"reflect"
	"slices"
	"strings"
	"testing"
	"unsafe"

	"stencil/api"
	"stencil/order"
)

// roomy is a list with room behind it, in which something stands.
func roomy[T any](list []T, mark T) []T {
	r := append(slices.Clone(list), mark, mark, mark)
	return r[:len(list)]
}

func roomyForm(f api.Form) api.Form {
	f = tidy(f)
	for i := range f.Tokens {
		f.Tokens[i].Const = roomy(f.Tokens[i].Const, 77)
	}
	f.Tokens = roomy(f.Tokens, api.Token{Op: api.BeginGroup, Name: "behind", Const: []uint64{7}})
	return f
}

// openedForm is a copy of all that a form's lists have, the room behind them too.
func openedForm(f api.Form) api.Form {
	f.Tokens = slices.Clone(f.Tokens[:cap(f.Tokens)])
	for i := range f.Tokens {
		f.Tokens[i].Const = slices.Clone(f.Tokens[i].Const[:cap(f.Tokens[i].Const)])
	}
	return f
}

// overwrite changes all that a form has, the room behind its lists too.
func overwrite(f api.Form) {
	ts := f.Tokens[:cap(f.Tokens)]
	for i := range ts {
		words := ts[i].Const[:cap(ts[i].Const)]
		for k := range words {
			words[k] = 99
		}
		ts[i] = api.Token{Name: "other", Const: []uint64{98}}
	}
}

const (
	wide  = "a k! s+ g( x p~ h[ y e$ ; e$ ; i{ ; d$ e$"
	whole = "a s a g=2 > x h=2 > y e$ > e$ e$ > h=0 e$ i=3 > > > d$ e$"
)

// P14.5: New changes nothing of the form, nor the room behind its lists; Step changes nothing of the call.
func TestArgumentsStay(t *testing.T) {
	r := roomyForm(made(t, wide))
	want := openedForm(r)
	m := begin(t, r)
	for i, c := range calls(whole) {
		for _, c := range []api.Call{{Kind: 9, Name: "a"}, {Kind: api.CallGroup, Name: "h", Count: -1}, c} {
			c.Words, c.Text = roomy([]uint64{1, 2}, 77), "text"
			was, words := c, slices.Clone(c.Words[:cap(c.Words)])
			m.Step(c)
			if !reflect.DeepEqual(c, was) || !slices.Equal(c.Words[:cap(c.Words)], words) {
				t.Errorf("P14.5: call %d: changed: %+v", i, c)
			}
		}
	}
	if !m.Done() {
		t.Error("P14.2: not done")
	}
	if !reflect.DeepEqual(openedForm(r), want) {
		t.Error("P14.5: the form is changed")
	}
	short := roomyForm(made(t, wide))
	short.Tokens = short.Tokens[:len(short.Tokens)-1]
	want = openedForm(short)
	if m, e := order.New(short); m != nil || e != api.ErrTokens || !reflect.DeepEqual(openedForm(short), want) {
		t.Errorf("P14.1, P14.5: no form: error %d, or it is changed", e)
	}
}

// P14.1: the machine goes by a copy of the form.
func TestFormIsCopied(t *testing.T) {
	f := made(t, wide)
	said := calls(whole)
	for cut := range len(said) + 1 {
		g := roomyForm(f)
		m, plain := begin(t, g), begin(t, f)
		for i, c := range said {
			if i == cut {
				overwrite(g)
			}
			if e := m.Step(c); e != plain.Step(c) || e != ok || stands(f, m) != stands(f, plain) {
				t.Fatalf("P14.1: written over ahead of %d: call %d: error %d; stands at %s", cut, i, e, stands(f, m))
			}
		}
	}
}

// P14.5: what Left answers is new memory, the room behind it too.
func TestLeftIsNew(t *testing.T) {
	f := made(t, wide)
	m, plain := begin(t, f), begin(t, f)
	for i, c := range calls(whole) {
		m.Step(c)
		plain.Step(c)
		want := slices.Clone(plain.Left())
		one, two := m.Left(), m.Left()
		n := m.Copy()
		other := n.Left()
		for k := range one[:cap(one)] {
			one[:cap(one)][k] = -9
		}
		_ = append(one, 5, 6, 7)
		for _, got := range [][]int{two, other, m.Left(), n.Left()} {
			if !slices.Equal(got, want) {
				t.Errorf("P14.5: behind call %d: Left %v, want %v", i, got, want)
			}
		}
		for k := range other[:cap(other)] {
			other[:cap(other)][k] = -8
		}
		if !slices.Equal(two, want) || !slices.Equal(m.Left(), want) || stands(f, m) != stands(f, plain) {
			t.Errorf("P14.4, P14.5: behind call %d: the copy's Left is the machine's", i)
		}
	}
}

// within tells whether a text lies in another one's memory.
func within(s, whole string) bool {
	if s == "" || whole == "" {
		return false
	}
	at, from := uintptr(unsafe.Pointer(unsafe.StringData(s))), uintptr(unsafe.Pointer(unsafe.StringData(whole)))
	return at >= from && at < from+uintptr(len(whole))
}

// texts are all that a value leads to.
func texts(v reflect.Value, seen map[uintptr]bool) []string {
	var out []string
	switch v.Kind() {
	case reflect.String:
		return []string{v.String()}
	case reflect.Pointer:
		if v.IsNil() || seen[v.Pointer()] {
			return nil
		}
		seen[v.Pointer()] = true
		return texts(v.Elem(), seen)
	case reflect.Interface:
		return texts(v.Elem(), seen)
	case reflect.Struct:
		for i := range v.NumField() {
			out = append(out, texts(v.Field(i), seen)...)
		}
	case reflect.Array:
		for i := range v.Len() {
			out = append(out, texts(v.Index(i), seen)...)
		}
	case reflect.Slice:
		for i := range v.Len() {
			out = append(out, texts(v.Index(i), seen)...)
		}
	case reflect.Map:
		for it := v.MapRange(); it.Next(); {
			out = append(out, texts(it.Key(), seen)...)
			out = append(out, texts(it.Value(), seen)...)
		}
	}
	return out
}

// P14.5: no text of the form or of a call is kept.
func TestTextsAreNew(t *testing.T) {
	f := made(t, wide)
	// All names in one text, so that what is kept of them shows.
	var joined strings.Builder
	for _, x := range f.Tokens {
		joined.WriteString(x.Name)
	}
	names, from := joined.String(), 0
	for i, x := range f.Tokens {
		f.Tokens[i].Name, from = names[from:from+len(x.Name)], from+len(x.Name)
	}
	m := begin(t, f)
	said := strings.Clone(whole)
	for i, word := range strings.Fields(said) {
		if e := m.Step(call(word)); e != ok {
			t.Fatalf("P14.2: call %d: error %d", i, e)
		}
		kept := texts(reflect.ValueOf(m), map[uintptr]bool{})
		if len(kept) == 0 {
			t.Fatal("no text is found")
		}
		for _, s := range kept {
			if within(s, names) || within(s, said) {
				t.Fatalf("P14.5: the name %q that is kept is the caller's own", s)
			}
		}
	}
}

// P14.2: every call ends soon, of a form with many parts and a message with as many entries as may be; a machine may be copied ahead of each.
func TestManyOfAll(t *testing.T) {
	var words strings.Builder
	for i := range 20000 {
		fmt.Fprintf(&words, "f%d ", i)
	}
	for i := range 10000 {
		fmt.Fprintf(&words, "g%d( x%d y h( ; ; ", i, i)
	}
	words.WriteString("deep{ ")
	words.WriteString(strings.Repeat("in{ z ", api.MaxNest-1) + strings.Repeat("; ", api.MaxNest) + "d$")
	f := made(t, words.String())
	m := begin(t, f)
	step := func(c api.Call) {
		n := m.Copy()
		if e := m.Step(c); e != ok || n.Step(c) != ok || n.Inside() != m.Inside() || n.Done() != m.Done() {
			t.Fatalf("P14.2, P14.4: Step(%v) = %d; inside %d, the copy %d", c, e, m.Inside(), n.Inside())
		}
	}
	for i := range 20000 {
		step(field(fmt.Sprint("f", 19999-i)))
		if e := m.Step(field(fmt.Sprint("x", i))); e != noOrder {
			t.Fatalf("P14.2: field x%d: error %d", i, e)
		}
	}
	for i := range 10000 {
		step(group(fmt.Sprint("g", i), i%2))
		if i%2 == 1 {
			step(next())
			step(field(fmt.Sprint("x", i)))
			step(group("h", 0))
		}
	}
	step(group("deep", 1))
	step(next())
	for range api.MaxNest - 2 {
		step(group("in", 1))
		step(next())
	}
	n := api.MaxEntries - 5000 - (api.MaxNest - 1)
	if e := m.Step(group("in", n+1)); e != noMore {
		t.Errorf("P14.2: one too many: error %d", e)
	}
	step(group("in", n))
	for range n {
		if e := m.Step(data("d")); e != noOrder {
			t.Fatalf("P14.2: data too early: error %d", e)
		}
		step(next())
		step(field("z"))
	}
	if m.Done() || !slices.Equal(m.Left(), make([]int, api.MaxNest)) {
		t.Errorf("P14.3: left %v", m.Left())
	}
	step(data("d"))
	if !m.Done() || m.Inside() != 0 || len(m.Left()) != 0 {
		t.Errorf("P14.3: inside %d, left %v", m.Inside(), m.Left())
	}
}
