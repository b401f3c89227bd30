package frame_test

import (
	"math/rand"
	"slices"
	"strings"
	"testing"

	"stencil/api"
	"stencil/frame"
)

// A second look at a stream: whole, from its beginning on, by the chapter's five steps.
type second struct {
	parcels []api.Parcel
	taken   int
	err     api.Errno
	need    int
}

func lookAgain(limit int, s string) (a second) {
	for {
		rest := s[a.taken:]
		if len(rest) < 4 {
			a.need = 6 - len(rest)
			return a
		}
		length := int(rest[3]) + 256*int(rest[2]) + 65536*int(rest[1]) + 16777216*int(rest[0])
		if length < 6 || length > limit {
			a.err = api.Errno(240)
			return a
		}
		if len(rest) < 6 {
			a.need = length - len(rest)
			return a
		}
		if rest[4:6] != "\x5b\xe0" && rest[4:6] != "\xeb\x50" {
			a.err = api.Errno(241)
			return a
		}
		if len(rest) < length {
			a.need = length - len(rest)
			return a
		}
		a.parcels = append(a.parcels, api.Parcel{Type: 256*int(rest[4]) + int(rest[5]), Body: rest[6:length]})
		a.taken += length
	}
}

// dice makes streams by chance.
type dice struct{ *rand.Rand }

func (r dice) oneIn(n int) bool { return r.Intn(n) == 0 }

func (r dice) frame(limit int) string {
	length := 6 + r.Intn(max(1, limit-5))
	if r.oneIn(3) {
		length = min(6+r.Intn(3), max(6, limit))
	}
	kind := []uint16{high, low}[r.Intn(2)]
	told := uint32(length)
	switch r.Intn(30) {
	case 0:
		told = uint32(r.Intn(6))
	case 1:
		told = uint32(limit + 1 + r.Intn(3))
	case 2:
		told = r.Uint32()
	case 3:
		kind ^= 1 << r.Intn(16)
	case 4:
		kind = uint16(r.Intn(1 << 16))
	}
	body := make([]byte, length-6)
	for i := range body {
		body[i] = []byte{0, 0, 6, 7, 0x5b, 0xe0, 0xeb, 0x50, byte(r.Intn(256))}[r.Intn(9)]
	}
	return framed(told, kind, string(body))
}

func (r dice) stream(limit int) string {
	var s strings.Builder
	for range r.Intn(12) {
		s.WriteString(r.frame(limit))
	}
	all := s.String()
	if r.oneIn(2) {
		all = all[:r.Intn(len(all)+1)]
	}
	return all
}

// P24.1 to P24.4, P24.6: streams by chance, cut by chance, against the second look.
func TestByChance(t *testing.T) {
	r := dice{rand.New(rand.NewSource(24))}
	told := map[api.Errno]int{}
	for range 60000 {
		limit := []int{-3, 0, 5, 6, 7, 8, 12, 40, 300, 300, 300, 300}[r.Intn(12)]
		s := r.stream(limit)
		want := lookAgain(limit, s)
		told[want.err]++
		wantSplit(t, limit, s, want.parcels, want.taken, want.err)
		feedByChance(t, r, limit, s)
		if t.Failed() {
			t.Fatalf("the stream is %X, the limit %d", s, limit)
		}
	}
	if len(told) != 3 {
		t.Errorf("the dice came to %v alone", told)
	}
}

// feedByChance feeds a stream in chunks, and holds each Feed against two looks at the stream: as it was before, and as it is with the chunk.
func feedByChance(t *testing.T, r dice, limit int, s string) {
	t.Helper()
	f := frame.New(limit)
	most := []int{1, 2, 5, 20, 400}[r.Intn(5)]
	for at := 0; at < len(s) || r.oneIn(2); {
		to := min(len(s), at+r.Intn(most+1))
		before, now := lookAgain(limit, s[:at]), lookAgain(limit, s[:to])
		held := to - now.taken
		if now.err != ok {
			held = 0
		}
		wantFeed(t, f, s[at:to], now.parcels[len(before.parcels):], now.err, held, now.need)
		at = to
	}
}

// P24.6: parcels by chance come out of their frames as they went in.
func TestWrapsByChance(t *testing.T) {
	r := dice{rand.New(rand.NewSource(6))}
	for range 3000 {
		var parcels []api.Parcel
		longest := 0
		for range r.Intn(20) {
			body := make([]byte, r.Intn(1<<r.Intn(10)))
			r.Read(body)
			longest = max(longest, len(body))
			parcels = append(parcels, parcel([]int{high, low}[r.Intn(2)], string(body)))
		}
		s := wrapped(t, parcels)
		wantSplit(t, longest+6, s, parcels, len(s), ok)
		if got, n, e := frame.Split(longest+5, s); len(parcels) > 0 && (e != badSize || n >= len(s) || !slices.Equal(got, parcels[:len(got)])) {
			t.Errorf("P24.1: one limit less than the longest: %d parcels, %d, %v", len(got), n, e)
		}
	}
}
