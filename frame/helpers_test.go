package frame_test

import (
	"encoding/hex"
	"fmt"
	"slices"
	"strings"
	"testing"

	"stencil/api"
	"stencil/frame"
)

const (
	ok      = api.OK
	badSize = api.ErrFrameSize
	badType = api.ErrFrameType

	high = 23520
	low  = 60240
)

// raw is a text of bytes in hexadecimal, with spaces where one likes.
func raw(text string) string {
	b, err := hex.DecodeString(strings.ReplaceAll(text, " ", ""))
	if err != nil {
		panic(err)
	}
	return string(b)
}

// framed is a frame by hand: any length, any kind, any body.
func framed(length uint32, kind uint16, body string) string {
	return string([]byte{byte(length >> 24), byte(length >> 16), byte(length >> 8), byte(length), byte(kind >> 8), byte(kind)}) + body
}

func parcel(kind int, body string) api.Parcel { return api.Parcel{Type: kind, Body: body} }

func list(p ...api.Parcel) []api.Parcel { return p }

// wrapped are the frames of parcels, one behind the other.
func wrapped(t *testing.T, parcels []api.Parcel) string {
	t.Helper()
	var all strings.Builder
	for _, p := range parcels {
		s, err := frame.Wrap(p)
		if err != ok {
			t.Fatalf("P24.5: Wrap(%s) = %v", shortParcels(list(p)), err)
		}
		all.WriteString(s)
	}
	return all.String()
}

// shown is a text in hexadecimal, a long one by its beginning.
func shown(s string) string {
	if len(s) > 40 {
		return fmt.Sprintf("%X.. (%d bytes)", s[:40], len(s))
	}
	return fmt.Sprintf("%X", s)
}

func shortParcels(l []api.Parcel) string {
	var out []string
	for _, p := range l[:min(len(l), 8)] {
		out = append(out, fmt.Sprintf("{%d %s}", p.Type, shown(p.Body)))
	}
	return fmt.Sprintf("%d parcels %s", len(l), strings.Join(out, " "))
}

// wantSplit holds a Split against what it ought to be.
func wantSplit(t *testing.T, limit int, s string, want []api.Parcel, n int, err api.Errno) {
	t.Helper()
	got, m, e := frame.Split(limit, s)
	if !slices.Equal(got, want) || m != n || e != err {
		t.Errorf("P24.1: Split(%d, %s) = %s, %d, %v; want %s, %d, %v", limit, shown(s), shortParcels(got), m, e, shortParcels(want), n, err)
	}
}

// wantFeed holds a Feed, and what stands behind it, against what they ought to be.
func wantFeed(t *testing.T, f *frame.Framer, s string, want []api.Parcel, err api.Errno, held, need int) {
	t.Helper()
	got, e := f.Feed([]byte(s))
	if !slices.Equal(got, want) || e != err {
		t.Errorf("P24.2: Feed(%s) = %s, %v; want %s, %v", shown(s), shortParcels(got), e, shortParcels(want), err)
	}
	wantStands(t, f, held, need)
}

func wantStands(t *testing.T, f *frame.Framer, held, need int) {
	t.Helper()
	if f.Held() != held {
		t.Errorf("P24.3: Held() = %d, want %d", f.Held(), held)
	}
	if f.Need() != need {
		t.Errorf("P24.4: Need() = %d, want %d", f.Need(), need)
	}
}
