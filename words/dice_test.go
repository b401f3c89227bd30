package words_test

import (
	"fmt"
	"math"
	"math/rand"
	"slices"
	"strconv"
	"strings"

	"stencil/api"
	"stencil/ir"
	"stencil/number"
	"stencil/prim"
)

// dice makes forms, trees and texts by chance.
type dice struct{ *rand.Rand }

func newDice(seed int64) dice { return dice{rand.New(rand.NewSource(seed))} }

func (r dice) oneIn(n int) bool { return r.Intn(n) == 0 }

func pick[T any](r dice, list ...T) T { return list[r.Intn(len(list))] }

// kind is a type's words.
func (r dice) kind(depth int) string {
	p := api.Prim(r.Intn(len(primNames)))
	if r.oneIn(4) {
		p = api.Char
	}
	constant := pick(r, "", "", "", "", "", "", "=")
	switch r.Intn(10) {
	case 0, 1:
		return fmt.Sprint(constant, primNames[p], "*", 1+r.Intn(4), r.null())
	case 2, 3:
		p %= api.Float
		return "<" + constant + primNames[p] + r.null() + r.choices(100) + ">"
	case 4:
		return "[" + constant + primNames[api.Uint8+api.Prim(r.Intn(4))] + r.null() + r.choices(8) + "]"
	case 5, 6:
		if depth > 3 {
			break
		}
		var members []string
		for range r.Intn(5) {
			members = append(members, pick(r, ".", r.kind(depth+1), r.kind(depth+1), r.kind(depth+1)))
		}
		return "(" + strings.Join(members, ",") + ")"
	}
	return constant + primNames[p] + r.null()
}

func (r dice) null() string { return pick(r, "", "", "~7", "~0", "~127") }

// choices have names that are few, and values below most.
func (r dice) choices(most int) string {
	var out strings.Builder
	values := r.Perm(most)
	for i, k := range r.Perm(len(choiceNames))[:r.Intn(len(choiceNames))] {
		fmt.Fprintf(&out, "|%s=%d", choiceNames[k], values[i])
	}
	return out.String()
}

var choiceNames = []string{"null", "Buy", "Sell", "a", "INF", "x1"}

// body is the words of a block and its row. Names are few, so that unlike blocks have parts of the same ones.
func (r dice) body(depth int) string {
	names := strings.Fields("a b c d e f g null Buy x1 k M")
	r.Shuffle(len(names), func(i, k int) { names[i], names[k] = names[k], names[i] })
	name := func() string {
		n := names[0]
		names = names[1:]
		return n
	}
	var words []string
	for range r.Intn(6) {
		n := name()
		words = append(words, pick(r, ".", n+"!", n+":"+r.kind(0), n+":"+r.kind(0), n+"?:"+r.kind(0)))
	}
	for range r.Intn(3) {
		if depth < 3 {
			words = append(words, name()+"{"+r.bits(), r.body(depth+1), "}")
		}
	}
	for range r.Intn(3) {
		words = append(words, name()+"$"+r.bits())
	}
	return strings.Join(words, " ")
}

func (r dice) bits() string { return pick(r, "8", "8", "16", "32") }

func (r dice) form() api.Form {
	for {
		f := unchecked(r.body(0))
		if err, _ := ir.Check(f); err == ok && len(f.Tokens) < 150 {
			return f
		}
	}
}

// turned is a form with something otherwise, which mostly is none.
func (r dice) turned(f api.Form) api.Form {
	f.Tokens = slices.Clone(f.Tokens)
	t := &f.Tokens[r.Intn(len(f.Tokens))]
	n := pick(r, -1, 0, 1, 2, 9, 65535, 65536, math.MaxInt, math.MinInt)
	switch r.Intn(9) {
	case 0:
		*pick(r, &f.Schema, &f.Version, &f.Head.Size, &f.Head.Block.Offset, &f.Head.Version.Offset) = n
	case 1:
		f.Order = api.Endian(n)
	case 2:
		*pick(r, &f.Head.Block.Prim, &f.Head.Template.Prim, &t.A.Prim, &t.B.Prim, &t.Prim) = api.Prim(r.Intn(13) - 1)
	case 3:
		t.Op = api.TokenOp(r.Intn(18) - 1)
	case 4:
		f.Tokens = slices.Delete(f.Tokens, r.Intn(len(f.Tokens)), len(f.Tokens))
	case 5:
		t.Name = pick(r, "", "a", "Buy", "null", "é")
	case 6:
		t.Null, t.Value = r.Uint64()>>r.Intn(64), uint64(r.Intn(3))
	default:
		*pick(r, &t.Pair, &t.ID, &t.Offset, &t.Size, &t.Since, &t.Length, &t.Block, &t.Full, &t.A.Offset, &t.B.Offset) += pick(r, -1, 1, n)
	}
	return f
}

// word is one of the type; small ones come often, since choices have such Values.
func (r dice) word(p api.Prim, null uint64) uint64 {
	switch r.Intn(5) {
	case 0, 1:
		return pick(r, prim.Null(p), prim.Min(p), prim.Max(p), null, null)
	case 2:
		return uint64(r.Intn(100))
	case 3:
		if p == api.Float {
			return pick[uint64](r, 0x7F800000, 0xFF800000, 0x80000000, 0x3F800000, 0x7FC00001)
		}
	}
	spare := 64 - 8*prim.Size(p)
	if w := r.Uint64(); !prim.Signed(p) {
		return w << spare >> spare
	}
	return uint64(int64(r.Uint64()<<spare) >> spare)
}

func (r dice) tree(f api.Form) []api.Val {
	return r.inside(f, 0, 2, []api.Val{{Depth: 1, Name: f.Tokens[0].Name}})
}

// inside puts the parts of a message or entry behind a list.
func (r dice) inside(f api.Form, place, depth int, m []api.Val) []api.Val {
	for k := range ir.Parts(f, place) {
		t := f.Tokens[k]
		v := api.Val{Depth: depth, Name: t.Name}
		switch t.Op {
		case api.BeginField:
			v.Kind = api.ValField
			isNull := r.oneIn(4)
			for leaf := range ir.Leaves(f, k) {
				null := f.Tokens[leaf].Null
				if f.Tokens[leaf-1].Op == api.BeginSet {
					null = 0
				}
				for range f.Tokens[leaf].Length {
					w := r.word(f.Tokens[leaf].Prim, null)
					if isNull {
						w = null
					}
					v.Words = append(v.Words, w)
				}
			}
			if len(v.Words) > 0 {
				m = append(m, v)
			}
		case api.BeginGroup:
			v.Kind = api.ValGroup
			m = append(m, v)
			for range pick(r, 0, 1, 1, 2, 3) {
				m = append(m, api.Val{Depth: depth + 1, Kind: api.ValEntry})
				m = r.inside(f, k, depth+2, m)
			}
		case api.BeginData:
			v.Kind, v.Text = api.ValData, r.bytes(r.Intn(9))
			m = append(m, v)
		}
	}
	return m
}

func (r dice) bytes(n int) string {
	var b []byte
	for range n {
		b = append(b, pick(r, 0, 'a', '"', '\\', '\n', ' ', ',', '}', 255, byte(r.Intn(256))))
	}
	return string(b)
}

// blanks are some that pieces may have between them; none, where it may be.
func (r dice) blanks(least int) string {
	var out strings.Builder
	for range least + pick(r, 0, 0, 1, r.Intn(4)) {
		out.WriteByte(pick[byte](r, ' ', ' ', '\t', '\n', '\r'))
	}
	return out.String()
}

// writer writes a tree in some way: its items in any order, those that say nothing left out or not, numbers and texts otherwise.
type writer struct {
	dice
	*second
	pieces []string
}

// text is one that says a tree.
func (r dice) text(look *second, m []api.Val) string {
	w := &writer{dice: r, second: look}
	w.block(0, m[1:])
	var out strings.Builder
	for i, p := range w.pieces {
		least := 0
		if i > 0 && isAtom(p) && isAtom(w.pieces[i-1]) {
			least = 1
		}
		out.WriteString(r.blanks(least) + p)
	}
	return out.String() + r.blanks(0)
}

func isAtom(p string) bool { return !strings.ContainsAny(p[:1], `{}[]:;,"`) }

func (w *writer) put(pieces ...string) { w.pieces = append(w.pieces, pieces...) }

// block writes one whose nodes a list begins with, and answers the others.
func (w *writer) block(place int, m []api.Val) []api.Val {
	own := &writer{dice: w.dice, second: w.second}
	var items [][]string
	for _, part := range w.parts[place] {
		v := m[0]
		m = m[1:]
		own.pieces = []string{v.Name, ":"}
		isEmpty := false
		switch v.Kind {
		case api.ValField:
			isEmpty = slices.Equal(v.Words, w.empty(part, 0).Words)
			own.field(part, v.Words, isEmpty)
		case api.ValData:
			isEmpty = v.Text == ""
			own.put(w.quoted(v.Text))
		case api.ValGroup:
			isEmpty = len(m) == 0 || m[0].Depth != v.Depth+1
			own.put("[")
			for len(m) > 0 && m[0].Depth == v.Depth+1 {
				m = own.block(part, m[1:])
			}
			own.put("]")
		}
		if !isEmpty || w.oneIn(2) {
			items = append(items, own.pieces)
		}
	}
	w.Shuffle(len(items), func(i, k int) { items[i], items[k] = items[k], items[i] })
	w.put("{")
	for _, item := range items {
		w.put(item...)
	}
	w.put("}")
	return m
}

func (w *writer) field(place int, words []uint64, isNull bool) {
	if isNull && w.oneIn(2) {
		w.put("null")
		return
	}
	for i, leaf := range w.leaves[place] {
		if i > 0 {
			w.put(";")
		}
		n := w.f.Tokens[leaf].Length
		w.leaf(leaf, words[:n])
		words = words[n:]
	}
}

func (w *writer) leaf(place int, words []uint64) {
	t := w.f.Tokens[place]
	if said := w.second.leaf(place, words); slices.Contains(choiceNames, said) && isEnum(w.f, place) && w.oneIn(2) {
		w.put(said)
		return
	}
	if t.Prim == api.Char {
		var b []byte
		for _, c := range words {
			b = append(b, byte(c))
		}
		w.put(w.quoted(string(b)))
		return
	}
	for i, x := range words {
		if i > 0 {
			w.put(",")
		}
		w.put(w.number(t.Prim, x))
	}
}

func isEnum(f api.Form, leaf int) bool { return f.Tokens[leaf-1].Op == api.BeginEnum }

// number is a word's text in some way.
func (r dice) number(p api.Prim, w uint64) string {
	s, _ := number.Print(p, w)
	digits := strings.TrimPrefix(s, "-")
	switch {
	case p == api.Float && r.oneIn(3):
		return fmt.Sprintf(pick(r, "0x%08x", "0X%08X"), w)
	case p == api.Double && r.oneIn(3):
		return fmt.Sprintf(pick(r, "0x%016x", "0X%016X"), w)
	case p < api.Float && s == digits && r.oneIn(3):
		return pick(r, "0x", "0X0") + strconv.FormatUint(w, 16)
	case p < api.Float && r.oneIn(3):
		return strings.TrimSuffix(s, digits) + "00" + digits
	case p < api.Float && s == digits && r.oneIn(3):
		return "+" + s
	case s == "0" && p < api.Float && r.oneIn(3):
		return "-0"
	}
	return s
}

// quoted is a text in quotes in some way.
func (r dice) quoted(s string) string {
	var out strings.Builder
	out.WriteByte('"')
	for _, c := range []byte(s) {
		short, marked := map[byte]string{'"': `\"`, '\\': `\\`, '\n': `\n`, '\r': `\r`, '\t': `\t`}[c]
		switch {
		case marked && r.oneIn(2):
			out.WriteString(short)
		case marked || c < 32 || r.oneIn(3):
			fmt.Fprintf(&out, pick(r, `\x%02x`, `\x%02X`), c)
		default:
			out.WriteByte(c)
		}
	}
	return out.String() + `"`
}

// spoilt is a text with something otherwise: a byte, a piece, its end.
func (r dice) spoilt(s string) string {
	for range 1 + r.Intn(2) {
		i := r.Intn(len(s) + 1)
		k := min(len(s), i+r.Intn(3))
		other := pick(r, "", "", "999", "70000", "e999", "99999999999999999999", "{", "}", "[", "]", ":", ";", ",", `"`, " ", "null", "a", "0", "9", "-", "x", "Buy", "a:1", `"a"`, ",1", ";1", `;"a"`, "\\", "\x00", "\xff", "a:null ", "{}", string([]byte{byte(r.Intn(256))}))
		s = s[:i] + other + s[k:]
	}
	if r.oneIn(8) {
		s = s[:r.Intn(len(s)+1)]
	}
	return s
}

// swapped is a text with one of its pieces gone, doubled, or another one in its place.
func (r dice) swapped(s string) string {
	pieces := cut(s)
	pieces = pieces[:len(pieces)-1]
	if len(pieces) == 0 {
		return s
	}
	from, to := r.span(s, pieces)
	otherFrom, otherTo := r.span(s, pieces)
	switch r.Intn(3) {
	case 0:
		return s[:from] + s[to:]
	case 1:
		return s[:to] + " " + s[otherFrom:otherTo] + " " + s[to:]
	}
	return s[:from] + " " + s[otherFrom:otherTo] + " " + s[to:]
}

// span is where one of a text's pieces lies, or a few of them.
func (r dice) span(s string, pieces []piece) (int, int) {
	i := r.Intn(len(pieces))
	k := min(len(pieces), i+pick(r, 1, 1, 1, 2, 3, 4))
	if k == len(pieces) {
		return pieces[i].at, len(s)
	}
	return pieces[i].at, pieces[k].at
}
