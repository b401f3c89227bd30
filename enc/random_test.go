package enc_test

import (
	"fmt"
	"math"
	"math/rand"
	"slices"
	"strings"
	"testing"

	"stencil/api"
	"stencil/ir"
	"stencil/prim"
	"stencil/value"
)

// dice makes forms and calls by chance.
type dice struct{ *rand.Rand }

func newDice(seed int64) dice { return dice{rand.New(rand.NewSource(seed))} }

func (r dice) oneIn(n int) bool { return r.Intn(n) == 0 }

func pick[T any](r dice, list ...T) T { return list[r.Intn(len(list))] }

// kind is a type's words.
func (r dice) kind(depth int) string {
	p := pick(r, allPrims...)
	switch r.Intn(9) {
	case 0:
		return fmt.Sprint(primNames[p], "*", 1+r.Intn(4))
	case 1:
		return "<" + primNames[r.Intn(9)] + ">"
	case 2:
		return "[" + primNames[api.Uint8+api.Prim(r.Intn(4))] + "]"
	case 3:
		return "=" + primNames[p]
	case 4, 5:
		if depth > 3 {
			break
		}
		var members []string
		for range r.Intn(5) {
			members = append(members, pick(r, ".", r.kind(depth+1), r.kind(depth+1)))
		}
		return "(" + strings.Join(members, ",") + ")"
	}
	return primNames[p]
}

// body is the words of a block and its row. Names are few, so that unlike blocks have parts of the same ones.
func (r dice) body(depth int) string {
	names := r.Perm(12)
	name := func() string {
		n := names[0]
		names = names[1:]
		return string(rune('a' + n))
	}
	var words []string
	for range r.Intn(5) {
		n := name()
		words = append(words, pick(r, ".", n+"!", n+":"+r.kind(0), n+":"+r.kind(0), n+":"+r.kind(0)))
	}
	if r.oneIn(3) {
		words = append(words, fmt.Sprint("+", pick(r, r.Intn(9), r.Intn(100), r.Intn(40000))))
	}
	for range r.Intn(3) {
		if depth < 4 {
			words = append(words, name()+"{"+r.bits(), r.body(depth+1), "}")
		}
	}
	for range r.Intn(3) {
		words = append(words, name()+"$"+r.bits())
	}
	return strings.Join(words, " ")
}

func (r dice) bits() string { return pick(r, "8", "16", "32") }

// form is one by chance, with headers and dimensions of all kinds.
func (r dice) form() api.Form {
	for {
		f := unchecked(r.body(0))
		if len(f.Tokens) > 120 {
			continue
		}
		f.Order, f.Schema, f.Version = pick(r, api.Little, api.Big), pick(r, 0, 7, 254, 255, 65534), pick(r, 0, 1, 254, 300)
		h := &f.Head
		h.Size = r.spread([]*api.Spot{&h.Block, &h.Template, &h.Schema, &h.Version}, f.Tokens[0].Full, f.Tokens[0].ID, f.Schema, f.Version)
		for i := range f.Tokens {
			if t := &f.Tokens[i]; t.Op == api.BeginGroup {
				t.Size = r.spread([]*api.Spot{&t.A, &t.B}, t.Full, r.Intn(300))
			}
		}
		if err, _ := ir.Check(f); err == ok {
			return f
		}
	}
}

// spread lays spots that can tell such numbers apart, in any order, and answers the bytes that they lie in.
func (r dice) spread(spots []*api.Spot, numbers ...int) int {
	at := r.Intn(2)
	for _, k := range r.Perm(len(spots)) {
		p := pick(r, api.Uint8, api.Uint16, api.Uint32)
		for prim.Max(p) < uint64(numbers[k]) {
			p++
		}
		*spots[k] = spot(p, at)
		at += prim.Size(p) + r.Intn(2)
	}
	return at
}

// turned is a form with something otherwise, which mostly is none.
func (r dice) turned(f api.Form) api.Form {
	f.Tokens = slices.Clone(f.Tokens)
	t := &f.Tokens[r.Intn(len(f.Tokens))]
	n := pick(r, -1, 0, 1, 2, 9, 65535, 65536, math.MaxInt, math.MinInt)
	switch r.Intn(9) {
	case 0:
		*pick(r, &f.Schema, &f.Version, &f.Head.Size, &f.Head.Block.Offset, &f.Head.Version.Offset) = n
	case 1:
		f.Order = api.Endian(n)
	case 2:
		*pick(r, &f.Head.Block.Prim, &f.Head.Template.Prim, &t.A.Prim, &t.B.Prim, &t.Prim) = api.Prim(r.Intn(13) - 1)
	case 3:
		t.Op = api.TokenOp(r.Intn(18) - 1)
	case 4:
		f.Tokens = slices.Delete(f.Tokens, r.Intn(len(f.Tokens)), len(f.Tokens))
	case 5:
		// More room in a block, which may be.
		f.Tokens[0].Full += r.Intn(3)
		f.Tokens[0].Block += r.Intn(2)
	default:
		*pick(r, &t.Pair, &t.ID, &t.Offset, &t.Size, &t.Since, &t.Length, &t.Block, &t.Full, &t.A.Offset, &t.B.Offset) += pick(r, -1, 1, n)
	}
	return f
}

// word is mostly one of the type.
func (r dice) word(p api.Prim) uint64 {
	good, wrong := ends(p)
	if len(wrong) > 0 && r.oneIn(25) {
		return pick(r, wrong...)
	}
	if r.oneIn(3) {
		return pick(r, append(good, prim.Null(p), prim.Min(p), prim.Max(p))...)
	}
	spare := 64 - 8*prim.Size(p)
	if w := r.Uint64(); !prim.Signed(p) {
		return w << spare >> spare
	}
	return uint64(int64(r.Uint64()<<spare) >> spare)
}

// words are mostly as the field at a place wants them.
func (r dice) words(m *second, place int) []uint64 {
	var out []uint64
	for _, k := range m.leaves[place] {
		for range m.f.Tokens[k].Length {
			out = append(out, r.word(m.f.Tokens[k].Prim))
		}
	}
	if r.oneIn(20) {
		out = pick(r, append(out, 1), out[:max(0, len(out)-1)], nil)
	}
	return out
}

func (r dice) count() int {
	if r.oneIn(12) {
		return pick(r, -1, 254, 255, 256, 65534, 65535, 65536, 65537, 1<<32-2, 1<<32-1, math.MaxInt, math.MinInt)
	}
	return pick(r, 0, 1, 2, 2, 3, r.Intn(60))
}

func (r dice) text() string {
	return strings.Repeat("t", pick(r, 0, 1, 2, 5, r.Intn(40), pick(r, 253, 254, 255, 65534, 65535, 70000)))
}

// call is mostly one that may come; else any one, of names that may be anywhere.
func (r dice) call(m *second) api.Call {
	if m.begun && len(m.todo) > 0 && !r.oneIn(6) {
		is := m.todo[0]
		if fields := m.fields[is.place]; is.kind == api.CallField && len(fields) > 0 && !r.oneIn(3) {
			k := pick(r, fields...)
			return field(m.f.Tokens[k].Name, r.words(m, k)...)
		}
		if is.kind == api.CallField && len(m.todo) > 1 {
			is = m.todo[1]
		}
		return api.Call{Kind: is.kind, Name: m.f.Tokens[is.place].Name, Count: r.count(), Text: r.text()}
	}
	c := api.Call{Kind: api.CallKind(r.Intn(6) - 1), Name: string(rune('a' + r.Intn(13))), Count: r.count(), Text: r.text()}
	c.Words = slices.Repeat([]uint64{1}, r.Intn(3))
	return c
}

// row is so many calls, and Wraps among them; between them the caller writes into his buffers.
func (w *twin) row(r dice, n int) map[api.Errno]int {
	w.t.Helper()
	got := map[api.Errno]int{}
	w.buffer(r.Intn(60))
	for range n {
		y := pick(r, w.memories...)
		if size := len(y.buffer()); size > 0 && r.oneIn(8) {
			w.writes(y, r.Intn(size), byte(r.Intn(256)))
		}
		if !w.m.begun && !r.oneIn(4) || r.oneIn(25) {
			if r.oneIn(3) && len(w.memories) < 6 {
				y = w.buffer(r.Intn(60) + pick(r, 0, 40, 400, 70000))
			}
			got[w.wrap(y, r.Intn(len(y.buffer())+3)-1)]++
			continue
		}
		got[w.do(r.call(w.m))]++
	}
	return got
}

// P18.1 to P18.6: long rows of calls by chance, each answered as the second encoder answers it.
func TestRows(t *testing.T) {
	got := map[api.Errno]int{}
	done := 0
	for seed := range int64(1500) {
		r := newDice(seed)
		w := newTwin(t, r.form())
		for err, n := range w.row(r, 120) {
			got[err] += n
		}
		if w.e.Done() {
			done++
		}
	}
	for _, err := range []api.Errno{ok, api.ErrWrap, api.ErrBuffer, api.ErrShort, api.ErrOrder, api.ErrCount, api.ErrEntries, api.ErrWords, api.ErrFit, api.ErrData, api.ErrLong} {
		if got[err] < 100 {
			t.Errorf("only %d calls were answered %v", got[err], err)
		}
	}
	if done < 100 {
		t.Errorf("only %d rows ended with a whole message", done)
	}
}

// whole is all calls of a message by chance, each field set once.
func (r dice) whole(m *second) []api.Call {
	var out []api.Call
	for len(m.todo) > 0 && len(out) < 3000 {
		is := m.todo[0]
		c := api.Call{Kind: is.kind, Name: m.f.Tokens[is.place].Name, Count: pick(r, 0, 0, 1, 2), Text: strings.Repeat("w", r.Intn(5))}
		if is.kind != api.CallField {
			out = append(out, c)
			m.do(c)
			continue
		}
		for _, i := range r.Perm(len(m.fields[is.place])) {
			k := m.fields[is.place][i]
			c := field(m.f.Tokens[k].Name)
			for _, leaf := range m.leaves[k] {
				for range m.f.Tokens[leaf].Length {
					c.Words = append(c.Words, prim.Max(m.f.Tokens[leaf].Prim))
				}
			}
			out = append(out, c)
		}
		m.todo = m.todo[1:]
	}
	return out
}

// P0.5: whole messages by chance: all is taken, one by one, and at the end there are as many bytes as the tree that the calls describe has; with one byte less the last call that claims bytes is refused.
func TestWholeMessages(t *testing.T) {
	for seed := range int64(400) {
		r := newDice(seed)
		f := r.form()
		m := newSecond(f)
		m.wrap(make([]byte, 1<<17), 0)
		calls := r.whole(m)
		tree, err := value.Tree(f, calls)
		if err == api.ErrLong || len(calls) >= 3000 {
			continue
		}
		size, _ := value.Size(f, tree)
		if err != ok || size != m.end {
			t.Fatalf("seed %d: Tree %v, Size %d, not %d", seed, err, size, m.end)
		}
		at := r.Intn(5)
		w := wrapped(t, f, at+size, at)
		w.all(calls...)
		want(t, "Done", w.e.Done(), true)
		want(t, "End", w.e.End(), at+size)
		again := newTwin(t, f)
		refused := again.wrap(again.buffer(at+size-1), at)
		for _, c := range calls {
			if refused == ok {
				refused = again.do(c)
			}
		}
		want(t, "with one byte less", refused, api.ErrShort)
	}
}
