package frame_test

import (
	"math"
	"slices"
	"strings"
	"testing"

	"stencil/api"
	"stencil/frame"
)

// P24.2, P24.3, P24.4: one byte after the other, and chunks without any between them.
func TestFeedByBytes(t *testing.T) {
	s := framed(9, low, "abc") + framed(6, high, "") + framed(7, high, "\x00")
	f := frame.New(9)
	ends := map[int]api.Parcel{9: parcel(low, "abc"), 15: parcel(high, ""), 22: parcel(high, "\x00")}
	begin, lengths := 0, []int{9, 6, 7}
	for i := range s {
		at := i + 1
		var want []api.Parcel
		if p, whole := ends[at]; whole {
			want = list(p)
			begin, lengths = at, lengths[1:]
		}
		held := at - begin
		need := 6 - held
		if held >= 4 {
			need = lengths[0] - held
		}
		wantFeed(t, f, s[i:at], want, ok, held, need)
		wantFeed(t, f, "", nil, ok, held, need)
	}
	wantFeed(t, f, s, list(parcel(low, "abc"), parcel(high, ""), parcel(high, "\x00")), ok, 0, 6)
}

// P24.2: nil is an empty chunk, ahead of all, inside of a frame and behind a refusal.
func TestFeedNil(t *testing.T) {
	f := frame.New(6)
	for _, r := range []struct {
		chunk      string
		err        api.Errno
		held, need int
	}{{"", ok, 0, 6}, {"\x00\x00", ok, 2, 4}, {"\x00\x06\x5b", ok, 5, 1}, {"\xe1", badType, 0, 0}} {
		wantFeed(t, f, r.chunk, nil, r.err, r.held, r.need)
		for _, none := range [][]byte{nil, {}} {
			if l, e := f.Feed(none); len(l) > 0 || e != r.err {
				t.Errorf("P24.2: Feed of nothing = %s, %v; want %v", shortParcels(l), e, r.err)
			}
			wantStands(t, f, r.held, r.need)
		}
	}
}

// P24.2: with what refuses the stream the parcels ahead of it are told, once; then nothing is taken any more, and the same is told.
func TestFeedRefused(t *testing.T) {
	for _, r := range []struct {
		wrong string
		err   api.Errno
	}{{"00 00 00 05", badSize}, {"00 00 00 65", badSize}, {"FF FF FF FF", badSize}, {"00 00 00 07 EB 51", badType}, {"00 00 00 64 00 00", badType}, {"00 00 00 05 EB 51", badSize}} {
		wrong := raw(r.wrong)
		good := framed(8, high, "hi")
		for ahead := range 4 {
			for behind := range 3 {
				for cut := range len(wrong) {
					if r.err == badSize && cut >= 4 {
						continue
					}
					f := frame.New(100)
					held, need := cut, 6-cut
					if cut >= 4 {
						need = int(wrong[3]) - cut
					}
					wantFeed(t, f, wrong[:cut], nil, ok, held, need)
					wantFeed(t, f, wrong[cut:]+strings.Repeat(good, behind), nil, r.err, 0, 0)

					f = frame.New(100)
					wantFeed(t, f, good+good[:1], list(parcel(high, "hi")), ok, 1, 5)
					all := slices.Repeat(list(parcel(high, "hi")), ahead+1)
					wantFeed(t, f, good[1:]+strings.Repeat(good, ahead)+wrong+strings.Repeat(good, behind), all, r.err, 0, 0)
					for _, then := range []string{"", good, wrong, "\x00", "\x00\x00\x00\x07\xeb\x51", "\x00\x00\x00\x00", good + good} {
						wantFeed(t, f, then, nil, r.err, 0, 0)
					}
				}
			}
		}
	}
}

// P24.2, P24.4: each limit; below 6 four bytes are refused, whatever they are.
func TestFeedLimits(t *testing.T) {
	for _, limit := range []int{math.MinInt, math.MinInt32, -1, 0, 1, 5} {
		for _, s := range []string{"\x00\x00\x00\x00", "\x00\x00\x00\x05", "\x00\x00\x00\x06", "\xff\xff\xff\xff", framed(6, low, ""), framed(200, 1, "")} {
			f := frame.New(limit)
			wantStands(t, f, 0, 6)
			wantFeed(t, f, s[:3], nil, ok, 3, 3)
			wantFeed(t, f, s[3:], nil, badSize, 0, 0)
			wantFeed(t, frame.New(limit), s, nil, badSize, 0, 0)
		}
	}
	for _, limit := range []int{6, 7, 300, 1 << 20, math.MaxInt32, 1<<32 - 1, 1 << 32, math.MaxInt} {
		most := min(limit, 1<<32-1)
		f := frame.New(limit)
		wantFeed(t, f, framed(uint32(most), high, "")[:4], nil, ok, 4, most-4)
		wantFeed(t, f, "\x5b", nil, ok, 5, most-5)
		if limit > 6 {
			wantFeed(t, f, "\xe0", nil, ok, 6, most-6)
		} else {
			wantFeed(t, f, "\xe0", list(parcel(high, "")), ok, 0, 6)
		}
		if limit < 1<<32-1 {
			wantFeed(t, frame.New(limit), framed(uint32(limit)+1, high, ""), nil, badSize, 0, 0)
		}
	}
}

// P24.2: two framers know nothing of each other.
func TestFramersApart(t *testing.T) {
	f, g := frame.New(100), frame.New(7)
	s := framed(8, low, "ab")
	wantFeed(t, f, s[:7], nil, ok, 7, 1)
	wantFeed(t, g, s[:7], nil, badSize, 0, 0)
	wantFeed(t, f, s[7:], list(parcel(low, "ab")), ok, 0, 6)
	wantFeed(t, g, s[:6], nil, badSize, 0, 0)
	wantFeed(t, frame.New(7), framed(7, low, "a"), list(parcel(low, "a")), ok, 0, 6)
}

// P24.6: however a stream is cut into two or three, its Feeds tell what Split tells.
func TestFeedsAreSplit(t *testing.T) {
	whole := framed(8, low, "ab") + framed(6, high, "") + framed(9, high, "\x00\x00\x00")
	for _, s := range []string{whole, whole + "\x00", whole + "\x00\x00\x00\x09\xeb\x50a", whole + "\x00\x00\x00\x0a\xeb\x50", whole + "\x00\x00\x00\x08\xeb\x51ab", "\x00\x00\x00\x05" + whole} {
		want, n, err := frame.Split(9, s)
		for i := range len(s) + 1 {
			for j := i; j <= len(s); j++ {
				f := frame.New(9)
				var got []api.Parcel
				var e api.Errno
				for _, chunk := range []string{s[:i], s[i:j], s[j:]} {
					l, now := f.Feed([]byte(chunk))
					if e != ok && (len(l) > 0 || now != e) {
						t.Errorf("P24.6: behind the refusal %v: %s, %v", e, shortParcels(l), now)
					}
					got, e = append(got, l...), now
				}
				if !slices.Equal(got, want) || e != err {
					t.Fatalf("P24.6: %s cut at %d and %d: %s, %v; Split tells %s, %v", shown(s), i, j, shortParcels(got), e, shortParcels(want), err)
				}
				if held := len(s) - n; err == ok && f.Held() != held {
					t.Fatalf("P24.3: %s cut at %d and %d: Held() = %d, want %d", shown(s), i, j, f.Held(), held)
				}
			}
		}
	}
}

// P24.6: Split of Wraps gives the parcels, and all bytes; one limit less and it ends ahead of the longest.
func TestSplitOfWraps(t *testing.T) {
	parcels := list(parcel(low, ""), parcel(high, "a"), parcel(high, strings.Repeat("b", 300)), parcel(low, framed(6, low, "")), parcel(high, "\x00\x00\x00\x00\x00\x00\x00"))
	s := wrapped(t, parcels)
	for _, limit := range []int{306, 307, 1 << 20, math.MaxInt} {
		wantSplit(t, limit, s, parcels, len(s), ok)
	}
	wantSplit(t, 305, s, parcels[:2], 13, badSize)
	for i := range len(s) + 1 {
		whole, n := 0, 0
		for _, p := range parcels {
			if n+6+len(p.Body) > i {
				break
			}
			whole, n = whole+1, n+6+len(p.Body)
		}
		wantSplit(t, 306, s[:i], parcels[:whole], n, ok)
	}
}
