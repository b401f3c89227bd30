package dump_test

import (
	"slices"
	"testing"

	"stencil/api"
	"stencil/codec"
	"stencil/ir"
)

// P22.1 to P22.5: messages by chance, of every version, some with blocks that are longer: the spans cover them, the lines read back, look.Where tells the same, and other bytes in the gaps give the same tree.
func TestRandomMessages(t *testing.T) {
	kinds, pads := map[api.SpanKind]int{}, 0
	for seed := range int64(300) {
		r := newDice(seed)
		f := r.form()
		p := planOf(f)
		for version := f.Tokens[0].Since; version <= f.Version; version++ {
			g := then(t, f, version)
			if r.oneIn(3) {
				g = r.longer(g)
			}
			s, e := codec.Bytes(g, r.tree(g))
			if e != ok {
				continue
			}
			at := r.Intn(3)
			b := slices.Concat(noise(at, 1), []byte(s), noise(r.Intn(3), 2))
			e, spans := hold(t, p, b, at)
			if _, _, err := codec.Decode(f, f.Version, b, at); e != err {
				t.Fatalf("P22.1: %v, but Decode tells %v", e, err)
			}
			if e != ok {
				continue
			}
			if spans[len(spans)-1].To != at+len(s) {
				t.Fatalf("P22.5: of %d bytes the spans end at %d", len(s), spans[len(spans)-1].To-at)
			}
			pads += holdPads(t, f, b, at, spans)
			for _, s := range spans {
				kinds[s.Kind]++
			}
		}
	}
	for kind, name := range kindNames {
		if kinds[api.SpanKind(kind)] < 200 {
			t.Errorf("only %d spans were %s", kinds[api.SpanKind(kind)], name)
		}
	}
	if pads < 1000 {
		t.Errorf("only %d bytes lay in gaps", pads)
	}
}

// P22.1 to P22.6: bytes by chance: of messages, with bytes spoilt, cut, or with others behind; and of nothing.
func TestRandomBytes(t *testing.T) {
	got, fronts := map[api.Errno]int{}, 0
	for seed := range int64(1500) {
		r := newDice(seed)
		f := r.form()
		p := planOf(f)
		for range 4 {
			g := then(t, f, r.version(f))
			if r.oneIn(3) {
				g = r.longer(g)
			}
			s, e := codec.Bytes(g, r.tree(g))
			if e != ok {
				continue
			}
			b := append([]byte(s), make([]byte, r.Intn(20))...)
			if r.oneIn(20) {
				b = make([]byte, r.Intn(40))
				r.Read(b)
			}
			b = r.spoilt(b)
			at := pick(r, 0, 0, 0, 0, 1, 2, -1, len(b), len(b)+1)
			if at > 0 && at < 3 {
				b = append(make([]byte, at), b...)
			}
			e, spans := hold(t, p, b, at)
			got[e]++
			if e != ok && len(spans) > 0 {
				fronts++
			}
		}
	}
	for _, e := range []api.Errno{ok, api.ErrBuffer, api.ErrShort, api.ErrSchemaID, api.ErrTemplate, api.ErrActing, api.ErrBlock, api.ErrLong, api.ErrCount, api.ErrData} {
		if got[e] < 10 {
			t.Errorf("only %d were answered %v: %v", got[e], e, got)
		}
	}
	if fronts < 200 {
		t.Errorf("only %d were refused behind a span", fronts)
	}
}

// P22.1: forms with something otherwise: what is no form is told, ahead of all else; by what is one the bytes are told as ever.
func TestRandomForms(t *testing.T) {
	forms, none := 0, 0
	for seed := range int64(400) {
		r := newDice(seed)
		f := r.form()
		s, _ := codec.Bytes(f, r.tree(f))
		b := []byte(s)
		for range 5 {
			g := r.turned(f)
			at := pick(r, 0, 0, 1, -1)
			if e, _ := ir.Check(g); e == ok {
				forms++
				hold(t, planOf(g), b, at)
				continue
			}
			none++
			refuse(t, "no form", g, b, at, api.ErrTokens)
		}
	}
	if forms < 100 || none < 500 {
		t.Errorf("only %d forms, and %d that are none", forms, none)
	}
}
