package dec_test

import (
	"fmt"
	"math"
	"math/rand"
	"slices"
	"strings"
	"testing"

	"stencil/api"
	"stencil/enc"
	"stencil/ir"
	"stencil/prim"
	"stencil/project"
)

var allPrims = []api.Prim{api.Char, api.Int8, api.Int16, api.Int32, api.Int64, api.Uint8, api.Uint16, api.Uint32, api.Uint64, api.Float, api.Double}

// dice makes forms, bytes and calls by chance.
type dice struct{ *rand.Rand }

func newDice(seed int64) dice { return dice{rand.New(rand.NewSource(seed))} }

func (r dice) oneIn(n int) bool { return r.Intn(n) == 0 }

func pick[T any](r dice, list ...T) T { return list[r.Intn(len(list))] }

// kind is a type's words.
func (r dice) kind(depth int) string {
	p := pick(r, allPrims...)
	switch r.Intn(10) {
	case 0:
		return fmt.Sprint(primNames[p], "*", 1+r.Intn(4))
	case 1:
		return "<" + primNames[r.Intn(9)] + r.null() + ">"
	case 2:
		return "[" + primNames[api.Uint8+api.Prim(r.Intn(4))] + r.null() + "]"
	case 3:
		return "=" + primNames[p]
	case 4, 5:
		if depth > 3 {
			break
		}
		var members []string
		for range r.Intn(5) {
			members = append(members, pick(r, ".", r.kind(depth+1), r.kind(depth+1)))
		}
		return "(" + strings.Join(members, ",") + ")"
	case 6:
		return primNames[p] + r.null()
	}
	return primNames[p]
}

func (r dice) null() string { return pick(r, "", "~7", "~0", "~127") }

// body is the words of a block and its row. Names are few, so that unlike blocks have parts of the same ones. What is newer stands behind, in a block, and behind the message's row.
func (r dice) body(depth, since, version int) string {
	names := r.Perm(12)
	later := since
	name := func(may bool) string {
		n := names[0]
		names = names[1:]
		if may && r.oneIn(3) {
			later = min(version, later+r.Intn(3))
		}
		return fmt.Sprintf("%c@%d", 'a'+n, later)
	}
	var words []string
	for range r.Intn(5) {
		n := name(true)
		words = append(words, pick(r, ".", n+"!", n+":"+r.kind(0), n+":"+r.kind(0), n+":"+r.kind(0)))
	}
	if r.oneIn(4) {
		words = append(words, fmt.Sprint("+", pick(r, r.Intn(9), r.Intn(100), r.Intn(40000))))
	}
	later = since
	for range r.Intn(3) {
		if depth < 3 {
			n := name(depth == 0)
			words = append(words, n+"{"+r.bits(), r.body(depth+1, later, version), "}")
		}
	}
	for range r.Intn(3) {
		words = append(words, name(depth == 0)+"$"+r.bits())
	}
	return strings.Join(words, " ")
}

func (r dice) bits() string { return pick(r, "8", "8", "16", "32") }

// form is one by chance, with headers and dimensions of all kinds.
func (r dice) form() api.Form {
	for {
		version := r.Intn(6)
		since := r.Intn(version + 1)
		f := unchecked(fmt.Sprintf("@%d ", since) + r.body(0, since, version))
		if len(f.Tokens) > 120 {
			continue
		}
		f.Order, f.Schema, f.Version = pick(r, api.Little, api.Big), pick(r, 0, 7, 254, 255, 65534), version
		h := &f.Head
		h.Size = r.spread([]*api.Spot{&h.Block, &h.Template, &h.Schema, &h.Version}, f.Tokens[0].Full, f.Tokens[0].ID, f.Schema, f.Version)
		for i := range f.Tokens {
			if t := &f.Tokens[i]; t.Op == api.BeginGroup {
				t.Size = r.spread([]*api.Spot{&t.A, &t.B}, t.Full, r.Intn(300))
			}
		}
		if err, _ := ir.Check(f); err == ok {
			return f
		}
	}
}

// spread lays spots that can tell such numbers apart, in any order, and answers the bytes that they lie in.
func (r dice) spread(spots []*api.Spot, numbers ...int) int {
	at := r.Intn(2)
	for _, k := range r.Perm(len(spots)) {
		p := pick(r, api.Uint8, api.Uint16, api.Uint32)
		for prim.Max(p) < uint64(numbers[k]) {
			p++
		}
		*spots[k] = spot(p, at)
		at += prim.Size(p) + r.Intn(2)
	}
	return at
}

// turned is a form with something otherwise, which mostly is none.
func (r dice) turned(f api.Form) api.Form {
	f.Tokens = slices.Clone(f.Tokens)
	t := &f.Tokens[r.Intn(len(f.Tokens))]
	n := pick(r, -1, 0, 1, 2, 9, 65535, 65536, math.MaxInt, math.MinInt)
	switch r.Intn(9) {
	case 0:
		*pick(r, &f.Schema, &f.Version, &f.Head.Size, &f.Head.Block.Offset, &f.Head.Version.Offset) = n
	case 1:
		f.Order = api.Endian(n)
	case 2:
		*pick(r, &f.Head.Block.Prim, &f.Head.Template.Prim, &t.A.Prim, &t.B.Prim, &t.Prim) = api.Prim(r.Intn(13) - 1)
	case 3:
		t.Op = api.TokenOp(r.Intn(18) - 1)
	case 4:
		f.Tokens = slices.Delete(f.Tokens, r.Intn(len(f.Tokens)), len(f.Tokens))
	case 5:
		// More room in a block, which may be.
		f.Tokens[0].Full += r.Intn(3)
		f.Tokens[0].Block += r.Intn(2)
	default:
		*pick(r, &t.Pair, &t.ID, &t.Offset, &t.Size, &t.Since, &t.Length, &t.Block, &t.Full, &t.A.Offset, &t.B.Offset) += pick(r, -1, 1, n)
	}
	return f
}

// word is one of the type.
func (r dice) word(p api.Prim) uint64 {
	if r.oneIn(3) {
		return pick(r, prim.Null(p), prim.Min(p), prim.Max(p))
	}
	spare := 64 - 8*prim.Size(p)
	if w := r.Uint64(); !prim.Signed(p) {
		return w << spare >> spare
	}
	return uint64(int64(r.Uint64()<<spare) >> spare)
}

// calls are an encoder's for a block of a form, each field set.
func (r dice) calls(f api.Form, place int) []api.Call {
	var out []api.Call
	for k := range ir.Parts(f, place) {
		t := f.Tokens[k]
		switch t.Op {
		case api.BeginField:
			c := set(t.Name)
			for leaf := range ir.Leaves(f, k) {
				for range f.Tokens[leaf].Length {
					c.Words = append(c.Words, r.word(f.Tokens[leaf].Prim))
				}
			}
			if len(c.Words) > 0 {
				out = append(out, c)
			}
		case api.BeginGroup:
			n := pick(r, 0, 1, 1, 2, 3)
			out = append(out, count(t.Name, n))
			for range n {
				out = append(out, next())
				out = append(out, r.calls(f, k)...)
			}
		case api.BeginData:
			out = append(out, text(t.Name, strings.Repeat("w", pick(r, 0, 1, 2, r.Intn(9)))))
		}
	}
	return out
}

// longer is a form some of whose blocks are longer, as a later schema's might be.
func (r dice) longer(f api.Form) api.Form {
	g := f
	g.Tokens = slices.Clone(f.Tokens)
	for i := range g.Tokens {
		if t := &g.Tokens[i]; r.oneIn(2) && (t.Op == api.BeginMessage || t.Op == api.BeginGroup) {
			more := r.Intn(4)
			t.Block += more
			t.Full += more
		}
	}
	if err, _ := ir.Check(g); err != ok {
		return f
	}
	return g
}

// message are the bytes of one at some version of a form, with any bytes between the fields; none, where it is too heavy or long. The calls that made them come with it.
func (r dice) message(f api.Form) (b []byte, version int, calls []api.Call) {
	version = f.Tokens[0].Since + r.Intn(f.Version-f.Tokens[0].Since+1)
	g, _ := project.At(f, version)
	if r.oneIn(3) {
		g = r.longer(g)
	}
	e, _ := enc.New(g)
	b = make([]byte, 2000)
	r.Read(b)
	calls = r.calls(g, 0)
	if e.Wrap(b, 0) != ok {
		return nil, version, nil
	}
	for _, c := range calls {
		if e.Do(c) != ok {
			return nil, version, nil
		}
	}
	return slices.Clone(b[:e.End()]), version, calls
}

// spoilt are bytes some of which are others, or gone.
func (r dice) spoilt(b []byte) []byte {
	b = slices.Clone(b)
	for range r.Intn(4) {
		if len(b) == 0 {
			break
		}
		at := r.Intn(len(b))
		if r.oneIn(3) {
			at = r.Intn(min(len(b), 12))
		}
		b[at] = pick(r, 0, 1, 2, 7, 253, 254, 255, b[at]+1, b[at]-1, byte(r.Intn(256)))
	}
	if r.oneIn(3) {
		b = b[:r.Intn(len(b)+1)]
	}
	return b
}

// call is mostly one that may come; else any one, of names that may be anywhere.
func (r dice) call(m *second) api.Call {
	if m.begun && len(m.known) > 0 && !r.oneIn(8) {
		is := m.known[0]
		if fields := m.fields(is.place); is.kind == api.CallField && len(fields) > 0 && !r.oneIn(3) {
			return field(m.f.Tokens[pick(r, fields...)].Name)
		}
		if is.kind == api.CallField && len(m.known) > 1 {
			is = m.known[1]
		}
		return api.Call{Kind: is.kind, Name: m.f.Tokens[is.place].Name}
	}
	return api.Call{Kind: api.CallKind(r.Intn(6) - 1), Name: string(rune('a' + r.Intn(13)))}
}

// begins hands both a Wrap of bytes that mostly are a message.
func (w *twin) begins(r dice) api.Errno {
	w.t.Helper()
	if len(w.memories) > 5 {
		w.memories = w.memories[3:]
	}
	at := r.Intn(5)
	b, _, _ := r.message(w.m.f)
	switch {
	case r.oneIn(10) && len(w.memories) > 0:
		y := pick(r, w.memories...)
		return w.wrap(y, r.Intn(len(y.buffer())+4)-2)
	case r.oneIn(10):
		b = make([]byte, r.Intn(40))
		r.Read(b)
	case r.oneIn(2):
		b = r.spoilt(b)
	}
	if r.oneIn(2) {
		b = append(b, make([]byte, r.Intn(20))...)
	}
	return w.wrap(w.buffer(at, b), at)
}

// row is so many calls, and Wraps and Skips among them; between them the caller writes into his buffers.
func (w *twin) row(r dice, n int) map[api.Errno]int {
	w.t.Helper()
	got := map[api.Errno]int{}
	for range n {
		if len(w.memories) > 0 && r.oneIn(8) {
			if y := pick(r, w.memories...); len(y.buffer()) > 0 {
				w.writes(y, r.Intn(len(y.buffer())), pick(r, 0, 1, 2, 254, 255, byte(r.Intn(256))))
			}
		}
		switch {
		case !w.m.begun && !r.oneIn(4), w.m.skipped && r.oneIn(2), r.oneIn(25):
			got[w.begins(r)]++
		case r.oneIn(12):
			got[w.skip()]++
		default:
			_, err := w.do(r.call(w.m))
			got[err]++
		}
	}
	return got
}

// P19.1 to P19.7, P0.4: long rows of calls by chance over bytes by chance, each answered as the second decoder answers it.
func TestRows(t *testing.T) {
	got := map[api.Errno]int{}
	done := 0
	for seed := range int64(1000) {
		r := newDice(seed)
		f := r.form()
		w := newTwin(t, f, f.Tokens[0].Since+r.Intn(f.Version-f.Tokens[0].Since+1))
		for err, n := range w.row(r, 120) {
			got[err] += n
		}
		if w.d.Done() {
			done++
		}
	}
	for _, err := range []api.Errno{ok, api.ErrWrap, api.ErrBuffer, api.ErrShort, api.ErrSchemaID, api.ErrTemplate, api.ErrActing, api.ErrBlock, api.ErrLong, api.ErrOrder, api.ErrCount, api.ErrEntries, api.ErrData} {
		if got[err] < 10 {
			t.Errorf("only %d calls were answered %v", got[err], err)
		}
	}
	if done < 100 {
		t.Errorf("only %d rows ended with a whole message", done)
	}
}
