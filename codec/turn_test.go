package codec_test

import (
	"slices"
	"testing"

	"stencil/api"
	"stencil/codec"
	"stencil/value"
)

// P20.5: from every version to every other: the bytes of what a reader there sees.
func TestTurns(t *testing.T) {
	f := grown(t)
	for _, f := range []api.Form{f, big(wide(f))} {
		for from := 1; from <= 4; from++ {
			s := string(written(t, f, from, grownTree(from)))
			for to := 1; to <= 4; to++ {
				m, e := value.Project(f, grownTree(from), from, to)
				if e != ok {
					t.Fatal(e)
				}
				want := string(written(t, f, to, m))
				got, e := codec.Turn(f, s, to)
				if got != want || e != ok {
					t.Fatalf("P20.5: Turn from %d to %d = %s, %v; want %s", from, to, head(got), e, head(want))
				}
				if from == to && got != s {
					t.Fatalf("P20.5: Turn from %d to itself = %s; want %s", from, head(got), head(s))
				}
				// And on to a third one, where nothing is lost on the way.
				for last := 1; last <= 4; last++ {
					once, _ := codec.Turn(f, s, last)
					twice, e := codec.Turn(f, got, last)
					if to >= min(from, last) && (twice != once || e != ok) {
						t.Fatalf("P20.5: Turn from %d by %d to %d = %s, %v; want %s", from, to, last, head(twice), e, head(once))
					}
				}
			}
		}
	}
}

// P20.5: literal bytes of both ways.
func TestTurnDown(t *testing.T) {
	f := made(t, chapter)
	zero := "\x03\x00\x03\x00\x07\x00\x00\x00" + sample[8:]
	full := "\x05\x00\x03\x00\x07\x00\x02\x00\x09\xfe\xff\x07\x00\x01\x00\x01\x04\x02hi\x03new"
	for _, x := range []struct {
		s    string
		to   int
		want string
	}{
		{full, 2, full}, {full, 1, sample}, {full, 0, zero},
		{zero, 2, newer}, {zero, 1, sample}, {zero, 0, zero},
		{sample, 2, newer}, {sample, 1, sample}, {sample, 0, zero},
	} {
		for _, behind := range []string{"", "\x00", "behind", sample} {
			if got, e := codec.Turn(f, x.s+behind, x.to); got != x.want || e != ok {
				t.Errorf("P20.5: Turn of %s to %d = %s, %v; want %s", head(x.s+behind), x.to, head(got), e, head(x.want))
			}
		}
	}
}

// P20.5: the error is Decode's: of the form, of the version, of the bytes, in that order.
func TestTurnRefused(t *testing.T) {
	f := made(t, chapter)
	none := f
	none.Order = 3
	for _, x := range []struct {
		f    api.Form
		s    string
		to   int
		want api.Errno
	}{
		{none, "", -1, api.ErrTokens},
		{none, sample, 2, api.ErrTokens},
		{f, "", -1, api.ErrVersion},
		{f, sample, 3, api.ErrVersion},
		{f, "", 2, api.ErrShort},
		{f, sample[:7], 0, api.ErrShort},
		{f, "\x03\x00\x03\x00\x08\x00\x01\x00", 0, api.ErrSchemaID},
		{f, "\x03\x00\x04\x00\x07\x00\x01\x00", 0, api.ErrTemplate},
		{f, "\x03\x00\x03\x00\x07\x00\x03\x00", 0, api.ErrActing},
		{f, "\x02\x00\x03\x00\x07\x00\x01\x00", 0, api.ErrBlock},
		{f, "?" + sample, 2, api.ErrSchemaID},
	} {
		if s, e := codec.Turn(x.f, x.s, x.to); s != "" || e != x.want {
			t.Errorf("P20.5: Turn of %s to %d = %s, %v; want %v", head(x.s), x.to, head(s), e, x.want)
		}
	}
}

// P20.4: Length is what Decode takes, and what Encode wrote, of messages one behind the other.
func TestLengthOfRow(t *testing.T) {
	f := grown(t)
	var row []byte
	var places []int
	for _, version := range []int{3, 1, 4, 2, 2, 4} {
		places = append(places, len(row))
		m := grownTree(version)
		g := then(t, f, version)
		size, _ := value.Size(g, m)
		row = slices.Concat(row, make([]byte, size))
		if n, e := codec.Encode(g, m, row, len(row)-size); n != size || e != ok {
			t.Fatalf("P20.1: Encode = %d, %v", n, e)
		}
	}
	at := 0
	for i := 0; at < len(row); i++ {
		if places[i] != at {
			t.Fatalf("P20.4: message %d at %d, not at %d", i, at, places[i])
		}
		n, e := codec.Length(f, row, at)
		if e != ok {
			t.Fatalf("P20.4: Length at %d = %v", at, e)
		}
		for reader := 1; reader <= 4; reader++ {
			if _, size, e := codec.Decode(f, reader, row, at); size != n || e != ok {
				t.Errorf("P20.4: Decode for %d at %d = %d, %v; Length = %d", reader, at, size, e, n)
			}
		}
		at += n
	}
	if at != len(row) {
		t.Errorf("P20.4: the row ends at %d, not at %d", at, len(row))
	}
}

// P20.4: a form as it was at a version has no later one.
func TestLengthAtVersion(t *testing.T) {
	f := grown(t)
	for version := 1; version <= 4; version++ {
		for acting := 1; acting <= 4; acting++ {
			b := written(t, f, acting, grownTree(acting))
			n, e := codec.Length(then(t, f, version), b, 0)
			if acting > version {
				if n != 0 || e != api.ErrActing {
					t.Errorf("P20.4: Length at %d of %d = %d, %v", version, acting, n, e)
				}
			} else if n != len(b) || e != ok {
				t.Errorf("P20.4: Length at %d of %d = %d, %v; want %d", version, acting, n, e, len(b))
			}
		}
	}
}
