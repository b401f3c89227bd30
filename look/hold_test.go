package look_test

import (
	"bytes"
	"fmt"
	"slices"
	"strconv"
	"strings"
	"testing"

	"stencil/api"
	"stencil/codec"
	"stencil/look"
)

// steps is a path by its text, in which an entry may be any number; it isn't asked whether anything fits.
func steps(said string) []api.Step {
	var out []api.Step
	for _, word := range strings.Split(said, ".") {
		name, entry, has := strings.Cut(word, "[")
		s := api.Step{Name: name, Entry: -1}
		if has {
			s.Entry = number(strings.TrimSuffix(entry, "]"))
		}
		out = append(out, s)
	}
	return out
}

// say is a path's text, whatever the steps.
func say(path []api.Step) string {
	var words []string
	for _, s := range path {
		word := s.Name
		if s.Entry != -1 {
			word += "[" + strconv.Itoa(s.Entry) + "]"
		}
		words = append(words, word)
	}
	return strings.Join(words, ".")
}

// margin is how much memory lies ahead of a buffer, and how much room behind it.
const margin = 16

// noise are bytes none of which is 0.
func noise(n, seed int) []byte {
	b := make([]byte, n)
	for i := range b {
		b[i] = byte(1 + (7*i+31*seed)%255)
	}
	return b
}

// head are the first bytes of some, as text.
func head(b []byte) string { return fmt.Sprintf("%d (%d bytes)", b[:min(len(b), 120)], len(b)) }

func sameTold(x, y api.Told) bool {
	return x.Count == y.Count && x.Text == y.Text && slices.Equal(x.Words, y.Words)
}

func sameSpan(x, y api.Span) bool {
	return x.From == y.From && x.To == y.To && x.Kind == y.Kind && slices.Equal(x.Path, y.Path)
}

// written are the bytes of a tree of a form at a version.
func written(t testing.TB, f api.Form, version int, m []api.Val) []byte {
	t.Helper()
	s, e := codec.Bytes(then(t, f, version), m)
	if e != ok {
		t.Fatalf("no bytes at %d: %v", version, e)
	}
	return []byte(s)
}

// scene is a message in a buffer, with memory about it, and what the second look sees there.
type scene struct {
	t      testing.TB
	f      api.Form
	whole  []byte
	buffer []byte
	at     int
	*sight
}

func newScene(t testing.TB, p *plan, b []byte, at int) *scene {
	c := &scene{t: t, f: p.f, whole: slices.Concat(noise(margin, len(b)), b, noise(margin, at)), at: at}
	c.buffer = c.whole[margin : margin+len(b)]
	c.sight = sightOf(p, slices.Clone(b), at)
	return c
}

// sceneOf is one that is looked at by a form, which must be one.
func sceneOf(t testing.TB, f api.Form, b []byte, at int) *scene {
	t.Helper()
	return newScene(t, planOf(f), b, at)
}

// hold asks Get and Where of a path, that they answer as the second look, and that no byte has changed. What Get's error must be is answered.
func (c *scene) hold(path []api.Step) api.Errno {
	c.t.Helper()
	was := slices.Clone(c.whole)
	x, want := c.find(path)
	if got, e := look.Get(c.f, c.buffer, c.at, path); e != want || !sameTold(got, x.told) {
		c.t.Fatalf("P21.1: Get of %q in %s at %d = %.99v, %v; want %.99v, %v", say(path), head(c.buffer), c.at, got, e, x.told, want)
	}
	lies, span := want, x.span
	if lies == ok && !x.lives {
		lies, span = api.ErrPath, api.Span{}
	}
	if lies == ok {
		span.Path = path
	}
	if got, e := look.Where(c.f, c.buffer, c.at, path); e != lies || !sameSpan(got, span) {
		c.t.Fatalf("P21.2: Where of %q in %s at %d = %v, %v; want %v, %v", say(path), head(c.buffer), c.at, got, e, span, lies)
	}
	if !bytes.Equal(c.whole, was) {
		c.t.Fatalf("P0.1: Get or Where of %q has written: %s, not %s", say(path), head(c.whole), head(was))
	}
	return want
}

// set asks Set of a path, that it answers as it must, and that just the field's words stand otherwise; then the bytes are as they were again. The error is answered.
func (c *scene) set(path []api.Step, words ...uint64) api.Errno {
	c.t.Helper()
	was := slices.Clone(c.whole)
	must := slices.Clone(was)
	x, want := c.find(path)
	place := c.placeOf(path)
	switch {
	case place < 0 || c.f.Tokens[place].Op != api.BeginField:
		want = api.ErrPath
	case want != ok:
	case !x.lives:
		want = api.ErrPath
	case len(words) != len(x.spots):
		want = api.ErrWords
	default:
		for i, s := range x.spots {
			if !isWord(s.Prim, words[i]) {
				want = api.ErrFit
			}
		}
	}
	if want == ok {
		for i, s := range x.spots {
			putWord(must[margin:], s.Offset, s.Prim, c.f.Order, words[i])
		}
	}
	given := slices.Clone(words)
	if e := look.Set(c.f, c.buffer, c.at, path, words); e != want {
		c.t.Fatalf("P21.3: Set of %q in %s at %d with %.99d = %v; want %v", say(path), head(was[margin:]), c.at, words, e, want)
	}
	if !bytes.Equal(c.whole, must) {
		c.t.Fatalf("P21.3: Set of %q with %.99d (%v): the memory is %s\nnot %s", say(path), words, want, head(c.whole), head(must))
	}
	if !slices.Equal(words, given) {
		c.t.Fatalf("P0.1: Set has changed the words: %d, not %d", words, given)
	}
	copy(c.whole, was)
	return want
}

// all asks everything of a path that is said, with so many words for Set as the field wants, if it is one. Get's error is answered.
func (c *scene) all(said string) api.Errno {
	c.t.Helper()
	path := steps(said)
	var words []uint64
	if place := c.placeOf(path); place >= 0 {
		for _, k := range c.leaves[place] {
			words = append(words, slices.Repeat([]uint64{1}, c.f.Tokens[k].Length)...)
		}
	}
	c.set(path, words...)
	return c.hold(path)
}

// wants asks everything of a path, and that Get's error is this one.
func (c *scene) wants(want api.Errno, said ...string) {
	c.t.Helper()
	for _, s := range said {
		if e := c.all(s); e != want {
			c.t.Errorf("P21.1: the way to %q in %s ends with %v, not %v", s, head(c.buffer), e, want)
		}
	}
}

// paths are those of a form, with all entries below a number.
func (p *plan) paths(below int) []string {
	var out []string
	var walk func(place int, ahead string)
	walk = func(place int, ahead string) {
		for _, k := range p.parts[place] {
			t := p.f.Tokens[k]
			if t.Op != api.BeginField || len(p.leaves[k]) > 0 {
				out = append(out, ahead+t.Name)
			}
			for i := range below {
				walk(k, fmt.Sprintf("%s%s[%d].", ahead, t.Name, i))
			}
		}
	}
	walk(0, "")
	return out
}

// every asks everything of every path of the form, entries below this number, and counts the errors.
func (c *scene) every(below int) map[api.Errno]int {
	c.t.Helper()
	got := map[api.Errno]int{}
	for _, said := range c.paths(below) {
		got[c.all(said)]++
	}
	return got
}

// refuse asks that all calls answer an error, with nothing beside it, and write nothing.
func refuse(t testing.TB, what string, f api.Form, b []byte, at int, path []api.Step, words []uint64, want api.Errno) {
	t.Helper()
	was := slices.Clone(b)
	if told, e := look.Get(f, b, at, path); e != want || !sameTold(told, api.Told{}) {
		t.Errorf("P21.1: %s: Get of %q at %d = %v, %v; want %v", what, say(path), at, told, e, want)
	}
	if span, e := look.Where(f, b, at, path); e != want || !sameSpan(span, api.Span{}) {
		t.Errorf("P21.2: %s: Where of %q at %d = %v, %v; want %v", what, say(path), at, span, e, want)
	}
	if e := look.Set(f, b, at, path, words); e != want {
		t.Errorf("P21.3: %s: Set of %q at %d = %v; want %v", what, say(path), at, e, want)
	}
	if !bytes.Equal(b, was) {
		t.Errorf("P21.3: %s: %q was refused, and something is written", what, say(path))
	}
}
