package codec_test

import (
	"bytes"
	"fmt"
	"slices"
	"strings"
	"testing"

	"stencil/api"
	"stencil/codec"
	"stencil/project"
	"stencil/value"
)

// margin is how much memory lies ahead of a buffer, and how much room behind it.
const margin = 16

// noise are bytes none of which is 0.
func noise(n, seed int) []byte {
	b := make([]byte, n)
	for i := range b {
		b[i] = byte(1 + (7*i+31*seed)%255)
	}
	return b
}

// show tells a list node by node; nil and empty lists alike.
func show(m []api.Val) string {
	var b strings.Builder
	for i, v := range m {
		fmt.Fprintf(&b, "%d: %d kind %d %q %.60d %.40q (%d)\n", i, v.Depth, v.Kind, v.Name, v.Words[:min(len(v.Words), 20)], v.Text, len(v.Text))
		if i == 60 {
			fmt.Fprintf(&b, ".. %d nodes\n", len(m))
			break
		}
	}
	return b.String()
}

// head are the first bytes of some, as text.
func head[T string | []byte](b T) string {
	return fmt.Sprintf("%d (%d bytes)", []byte(b[:min(len(b), 120)]), len(b))
}

// sameNodes is the tests' own comparison.
func sameNodes(m, n []api.Val) bool {
	return slices.EqualFunc(m, n, func(v, w api.Val) bool {
		return v.Depth == w.Depth && v.Kind == w.Kind && v.Name == w.Name && v.Text == w.Text && slices.Equal(v.Words, w.Words)
	})
}

// copyOf is a list in memory of its own.
func copyOf(m []api.Val) []api.Val {
	m = slices.Clone(m)
	for i := range m {
		m[i].Words = slices.Clone(m[i].Words)
	}
	return m
}

// written are the bytes of a tree of a form by the second codec; the tree must be one.
func written(t testing.TB, f api.Form, version int, m []api.Val) []byte {
	t.Helper()
	if e, i := value.Check(then(t, f, version), m); e != ok {
		t.Fatalf("no tree at %d: %v at %d:\n%s", version, e, i, show(m))
	}
	return write(planOf(f), version, m)
}

// holdEncode hands a tree and a buffer of so many bytes, with memory about it, to Encode, and asks that it answers as it must, and that just the message's bytes have changed; and asks the same of Bytes. The error is answered.
func holdEncode(t testing.TB, f api.Form, m []api.Val, n, at int) api.Errno {
	t.Helper()
	whole := noise(margin+n+margin, n+at)
	must := slices.Clone(whole)
	size, want := value.Size(f, m)
	var message []byte
	if want == ok {
		message = write(planOf(f), f.Version, m)
		if len(message) != size {
			t.Fatalf("the second codec's %d bytes, of %d", len(message), size)
		}
	}
	if s, e := codec.Bytes(f, m); s != string(message) || e != want {
		t.Fatalf("P20.2: Bytes = %s, %v; want %s, %v\n%s", head(s), e, head(message), want, show(m))
	}
	switch {
	case want != ok:
	case at < 0 || at > n:
		want = api.ErrBuffer
	case size > n-at:
		want = api.ErrShort
	default:
		copy(must[margin+at:], message)
	}
	if want != ok {
		size = 0
	}
	got, e := codec.Encode(f, m, whole[margin:margin+n], at)
	if got != size || e != want {
		t.Fatalf("P20.1: Encode into %d bytes at %d = %d, %v; want %d, %v\n%s", n, at, got, e, size, want, show(m))
	}
	if !bytes.Equal(whole, must) {
		t.Fatalf("P20.1: Encode into %d bytes at %d (%v): the memory is %s\nnot %s\n%s", n, at, want, head(whole), head(must), show(m))
	}
	return e
}

// holdDecode hands bytes, with memory about them, to Decode, and asks that it answers as the second codec, and that no byte has changed; and asks the same of Length, and of Turn, if the message stands at the beginning. The error of Decode is answered.
func holdDecode(t testing.TB, p *plan, reader int, b []byte, at int) api.Errno {
	t.Helper()
	f := p.f
	whole := slices.Concat(noise(margin, at), b, noise(margin, len(b)))
	must := slices.Clone(whole)
	buffer := whole[margin : margin+len(b)]
	var m []api.Val
	n, want := 0, api.ErrVersion
	if reader >= f.Tokens[0].Since && reader <= f.Version {
		m, n, want = read(p, reader, b, at)
	}
	got, size, e := codec.Decode(f, reader, buffer, at)
	if e != want || size != n || !sameNodes(got, m) {
		t.Fatalf("P20.3: Decode for %d of %s at %d = %d, %v; want %d, %v\n%swant\n%s", reader, head(b), at, size, e, n, want, show(got), show(m))
	}
	if at == 0 {
		holdTurn(t, p, string(b), reader, m, want)
	}
	_, n, err := read(p, f.Version, b, at)
	if size, e := codec.Length(f, buffer, at); size != n || e != err {
		t.Fatalf("P20.4: Length of %s at %d = %d, %v; want %d, %v", head(b), at, size, e, n, err)
	}
	if !bytes.Equal(whole, must) {
		t.Fatalf("P20.3: Decode has written into the buffer: %s, not %s", head(whole), head(must))
	}
	return want
}

// holdTurn asks Turn of bytes of which Decode answers such a tree, or an error.
func holdTurn(t testing.TB, p *plan, s string, to int, m []api.Val, want api.Errno) {
	t.Helper()
	bytes := ""
	if want == ok {
		g, _ := project.At(p.f, to)
		if _, want = value.Size(g, m); want == ok {
			bytes = string(write(p, to, m))
		}
	}
	if got, e := codec.Turn(p.f, s, to); got != bytes || e != want {
		t.Fatalf("P20.5: Turn of %s to %d = %s, %v; want %s, %v", head(s), to, head(got), e, head(bytes), want)
	}
}

// holdVersions writes a tree at a version, and asks that every reader sees what value.Project says.
func holdVersions(t testing.TB, f api.Form, version int, m []api.Val) {
	t.Helper()
	p := planOf(f)
	s, e := codec.Bytes(then(t, f, version), m)
	if e != ok || s != string(write(p, version, m)) {
		t.Fatalf("P20.2: Bytes at %d = %s, %v\n%s", version, head(s), e, show(m))
	}
	for reader := f.Tokens[0].Since; reader <= f.Version; reader++ {
		want, e := value.Project(f, m, version, reader)
		if e != ok {
			t.Fatalf("value.Project: %v", e)
		}
		got, n, e := codec.Decode(f, reader, []byte(s), 0)
		if e != ok || n != len(s) || !value.Same(got, want) {
			t.Fatalf("P20.6: written at %d, read at %d: %d of %d bytes, %v\n%swant\n%s", version, reader, n, len(s), e, show(got), show(want))
		}
		holdDecode(t, p, reader, []byte(s), 0)
	}
}

func wantTree(t testing.TB, what string, f api.Form, reader int, b []byte, at int, said string, n int) {
	t.Helper()
	m, size, e := codec.Decode(f, reader, b, at)
	if e != ok || size != n || !sameNodes(m, tree(said)) {
		t.Errorf("P20.3: %s: Decode = %d, %v; want %d\n%swant %s", what, size, e, n, show(m), said)
	}
}

// refuseDecode asks that the bytes are refused, with that error, by all that read them.
func refuseDecode(t testing.TB, what string, f api.Form, reader int, b []byte, at int, want api.Errno) {
	t.Helper()
	if m, n, e := codec.Decode(f, reader, b, at); len(m) != 0 || n != 0 || e != want {
		t.Errorf("P20.3: %s: Decode = %d nodes, %d, %v; want %v", what, len(m), n, e, want)
	}
	if n, e := codec.Length(f, b, at); reader == f.Version && (n != 0 || e != want) {
		t.Errorf("P20.4: %s: Length = %d, %v; want %v", what, n, e, want)
	}
	if at != 0 {
		return
	}
	if s, e := codec.Turn(f, string(b), reader); s != "" || e != want {
		t.Errorf("P20.5: %s: Turn = %q, %v; want %v", what, s, e, want)
	}
}

// refuseEncode asks that a tree is refused, with that error, whatever the buffer; and that this stays.
func refuseEncode(t testing.TB, what string, f api.Form, m []api.Val, want api.Errno) {
	t.Helper()
	if s, e := codec.Bytes(f, m); s != "" || e != want {
		t.Errorf("P20.2: %s: Bytes = %s, %v; want %v", what, head(s), e, want)
	}
	for _, n := range []int{0, 1, 7, 40, 3000} {
		for _, at := range []int{-1, 0, 1, n, n + 1} {
			b := noise(n, 1)
			if size, e := codec.Encode(f, m, b, at); size != 0 || e != want {
				t.Errorf("P20.1: %s: Encode into %d bytes at %d = %d, %v; want %v", what, n, at, size, e, want)
			}
			if !bytes.Equal(b, noise(n, 1)) {
				t.Errorf("P20.1: %s: Encode into %d bytes at %d was refused, and has written", what, n, at)
			}
		}
	}
}
