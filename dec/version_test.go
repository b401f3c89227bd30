package dec_test

import (
	"slices"
	"testing"

	"stencil/api"
	"stencil/dec"
	"stencil/ir"
	"stencil/project"
	"stencil/value"
)

// P19.3: fields, groups and data that the bytes don't have, and such as the reader doesn't know, of all readers and versions.
func TestVersions(t *testing.T) {
	f := made(t, "a:uint8 b@1:uint8~7 c@2:int8*2 g{8 x:uint8 y@1:[uint8~3] z@2:<uint8> e$8 } h@1{8 w:uint8 } d@2$8")
	bytes := [][]byte{
		written(t, f, 0, set("a", 1), count("g", 1), next(), set("x", 4), text("e", "e")),
		written(t, f, 1, set("a", 1), set("b", 2), count("g", 1), next(), set("x", 4), set("y", 5), text("e", "e"), count("h", 1), next(), set("w", 8)),
		written(t, f, 2, set("a", 1), set("b", 2), set("c", 3, 4), count("g", 1), next(), set("x", 4), set("y", 5), set("z", 6), text("e", "e"), count("h", 1), next(), set("w", 8), text("d", "dd")),
	}
	for acting, b := range bytes {
		for reader := range 3 {
			w := wrapped(t, f, reader, 2, b)
			there := func(since int, words, nulls []uint64) []uint64 {
				if since > acting {
					return nulls
				}
				return words
			}
			tells := func(name string, since int, words, nulls []uint64) {
				t.Helper()
				if since > reader {
					w.refuse(field(name), api.ErrOrder)
					return
				}
				w.tells(name, there(since, words, nulls)...)
			}
			tells("a", 0, []uint64{1}, nil)
			tells("b", 1, []uint64{2}, []uint64{7})
			tells("c", 2, []uint64{3, 4}, []uint64{1<<64 - 128, 1<<64 - 128})
			w.counts("g", 1)
			w.all(next())
			tells("x", 0, []uint64{4}, nil)
			tells("y", 1, []uint64{5}, []uint64{0})
			tells("z", 2, []uint64{6}, []uint64{255})
			w.says("e", "e")
			switch {
			case reader == 0:
				w.refuse(group("h"), api.ErrOrder)
			case acting == 0:
				w.counts("h", 0)
				w.refuse(next(), api.ErrOrder)
			default:
				w.counts("h", 1)
				w.all(next())
				w.tells("w", 8)
			}
			if reader < 2 {
				w.refuse(data("d"), api.ErrOrder)
			} else {
				w.says("d", []string{"", "", "dd"}[acting])
			}
			want(t, "Done", w.d.Done(), true)
			w.must(ok, w.skip(), "Skip")
			want(t, "End", w.d.End(), 2+len(b))
		}
	}
}

// P19.3: what the reader knows and the bytes don't have takes no byte, though bytes are there behind the message.
func TestNothingTaken(t *testing.T) {
	f := made(t, "a:uint8 d$8 n@1$8 m@2$8")
	b := append(written(t, f, 0, set("a", 1), text("d", "x")), 255, 255, 255)
	w := wrapped(t, f, 2, 0, b)
	w.says("d", "x")
	want(t, "Done", w.d.Done(), false)
	w.says("n", "")
	w.says("m", "")
	want(t, "Done", w.d.Done(), true)
	want(t, "End", w.d.End(), 11)
	w.must(ok, w.skip(), "Skip")
	want(t, "End", w.d.End(), 11)
	// Groups likewise, and they may not even be whole.
	f = made(t, "a:uint8 g@1{8 x:uint8 } h@2{8 }")
	w = wrapped(t, f, 2, 0, append(written(t, f, 0, set("a", 1)), 255))
	w.counts("g", 0)
	w.counts("h", 0)
	want(t, "End", w.d.End(), 9)
}

// P19.2, P19.3: a form that isn't a message's whole one: blocks weigh their Full, versions above its own are refused.
func TestEarlierForm(t *testing.T) {
	whole := made(t, chapter)
	f, err := project.At(whole, 1)
	if err != ok || f.Tokens[0].Block != 3 || f.Tokens[0].Full != 5 {
		t.Fatalf("the form at 1: %v, %+v", err, f.Tokens[0])
	}
	w := wrapped(t, f, 1, 0, []byte(sample))
	w.refuse(field("c"), api.ErrOrder)
	w.counts("g", 1)
	w.all(next())
	w.says("d", "hi")
	want(t, "Done", w.d.Done(), true)
	w.must(api.ErrActing, w.wrap(w.buffer(0, []byte(newer)), 0), "Wrap")
	if d, err := dec.New(f, 2); d != nil || err != api.ErrVersion {
		t.Errorf("P19.1: New = %v, %v", d, err)
	}
}

// reading is the tree of a message that a decoder is asked for, part by part.
type reading struct {
	t    *testing.T
	d    *dec.Decoder
	f    api.Form // the reader's
	tree []api.Val
}

func (g *reading) block(place, depth int) {
	for k := range ir.Parts(g.f, place) {
		v := api.Val{Depth: depth, Name: g.f.Tokens[k].Name}
		var err api.Errno
		switch g.f.Tokens[k].Op {
		case api.BeginField:
			v.Kind = api.ValField
			if len(slices.Collect(ir.Leaves(g.f, k))) == 0 {
				continue
			}
			v.Words, err = g.d.Field(v.Name)
			g.tree = append(g.tree, v)
		case api.BeginData:
			v.Kind = api.ValData
			v.Text, err = g.d.Data(v.Name)
			g.tree = append(g.tree, v)
		case api.BeginGroup:
			var n int
			v.Kind = api.ValGroup
			n, err = g.d.Group(v.Name)
			g.tree = append(g.tree, v)
			for range n {
				if err := g.d.Next(); err != ok {
					g.t.Fatalf("Next: %v", err)
				}
				g.tree = append(g.tree, api.Val{Depth: depth + 1, Kind: api.ValEntry})
				g.block(k, depth+2)
			}
		}
		if err != ok {
			g.t.Fatalf("%s: %v", v.Name, err)
		}
	}
}

// P19.1 to P19.6: messages by chance, written by an encoder at any version: what a decoder tells a reader of any version is the tree as that one sees it (chapter 16), and all bytes are gone through.
func TestTrees(t *testing.T) {
	messages := 0
	for seed := range int64(600) {
		r := newDice(seed)
		f := r.form()
		b, version, calls := r.message(f)
		at, _ := project.At(f, version)
		tree, err := value.Tree(at, calls)
		if b == nil || err != ok {
			continue
		}
		messages++
		for reader := f.Tokens[0].Since; reader <= f.Version; reader++ {
			must, err := value.Project(f, tree, version, reader)
			seen, _ := project.At(f, reader)
			d := begin(t, f, reader)
			if e := d.Wrap(append(b, 1, 2, 3), 0); e != ok || err != ok {
				t.Fatalf("seed %d: Wrap %v, Project %v", seed, e, err)
			}
			g := &reading{t: t, d: d, f: seen, tree: []api.Val{{Depth: 1, Kind: api.ValMessage, Name: "M"}}}
			g.block(0, 2)
			if !slices.EqualFunc(g.tree, must, func(a, b api.Val) bool {
				return a.Depth == b.Depth && a.Kind == b.Kind && a.Name == b.Name && a.Text == b.Text && slices.Equal(a.Words, b.Words)
			}) {
				t.Fatalf("seed %d: written at %d, read at %d:\n%+v, not\n%+v", seed, version, reader, g.tree, must)
			}
			want(t, "Done", d.Done(), true)
			want(t, "Acting", d.Acting(), version)
			wantSkip(t, d, len(b), ok)
		}
	}
	if messages < 300 {
		t.Errorf("only %d messages", messages)
	}
}
