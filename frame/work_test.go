package frame_test

import (
	"math"
	"runtime"
	"slices"
	"strings"
	"testing"

	"stencil/api"
	"stencil/frame"
)

// askedBy is how many bytes a call asks memory for.
func askedBy(do func()) int {
	var was, now runtime.MemStats
	runtime.ReadMemStats(&was)
	do()
	runtime.ReadMemStats(&now)
	return int(now.TotalAlloc - was.TotalAlloc)
}

// inUse is how many bytes are kept by now.
func inUse() int {
	var now runtime.MemStats
	runtime.GC()
	runtime.GC()
	runtime.ReadMemStats(&now)
	return int(now.HeapAlloc)
}

// P24.7: a long frame that comes byte by byte; a Feed that went over all that is held would take minutes.
func TestLongFrameByBytes(t *testing.T) {
	const n = 8 << 20
	s := framed(n, high, strings.Repeat("long", n/4)[:n-6])
	f := frame.New(n)
	one := make([]byte, 1)
	var got []api.Parcel
	asked := askedBy(func() {
		for i := range len(s) {
			one[0] = s[i]
			l, err := f.Feed(one)
			if err != ok {
				t.Fatalf("P24.2: at %d: %v", i, err)
			}
			got = append(got, l...)
		}
	})
	if len(got) != 1 || got[0] != parcel(high, s[6:]) || f.Held() != 0 {
		t.Errorf("P24.6: %s, and %d are held", shortParcels(got), f.Held())
	}
	if asked > 12*n {
		t.Errorf("P24.7: %d bytes were asked for", asked)
	}
}

// P24.7: a Feed late in a long stream works no more than an early one.
func TestLongStream(t *testing.T) {
	f := frame.New(100)
	chunk := []byte(framed(9, low, "abc") + framed(7, high, "d"))
	asked := func() int {
		return askedBy(func() {
			for range 1000 {
				if l, err := f.Feed(chunk); len(l) != 2 || err != ok {
					t.Fatalf("P24.2: %s, %v", shortParcels(l), err)
				}
			}
		})
	}
	f.Feed(chunk[:4])
	chunk = slices.Concat(chunk[4:], chunk[:4])
	early := asked()
	for range 300 {
		asked()
	}
	if late := asked(); late > early+early/2+10000 {
		t.Errorf("P24.7: %d bytes early, %d late", early, late)
	}
}

// P24.7: many frames in one chunk.
func TestManyFrames(t *testing.T) {
	const n = 1 << 20
	s := strings.Repeat(framed(6, low, "")+framed(7, high, "x"), n/2)
	f := frame.New(7)
	f.Feed([]byte(s[:5]))
	l, err := f.Feed([]byte(s[5:] + "\x00"))
	if len(l) != n || err != ok || l[0] != parcel(low, "") || l[n-1] != parcel(high, "x") {
		t.Errorf("P24.2: %s, %v", shortParcels(l), err)
	}
	wantStands(t, f, 1, 5)
	all, m, err := frame.Split(7, s)
	if !slices.Equal(all, l) || m != len(s) || err != ok {
		t.Errorf("P24.1: %s, %d, %v", shortParcels(all), m, err)
	}
}

// P24.7: no room is made for what a length only tells.
func TestToldLengthTakesNoRoom(t *testing.T) {
	head := framed(math.MaxUint32, low, "")
	asked := askedBy(func() {
		for range 100 {
			f := frame.New(math.MaxInt)
			wantFeed(t, f, head, nil, ok, 6, math.MaxUint32-6)
			wantFeed(t, f, "body", nil, ok, 10, math.MaxUint32-10)
			wantSplit(t, math.MaxInt, head, nil, 0, ok)
		}
	})
	if asked > 1<<20 {
		t.Errorf("P24.7: %d bytes were asked for", asked)
	}
}

// P24.7: behind a Feed no more is kept than the frame that isn't whole; nothing behind the last whole one, nor behind a refusal.
func TestKeepsOneFrame(t *testing.T) {
	const n = 32 << 20
	for _, r := range []struct {
		rest string
		err  api.Errno
		kept int
	}{{"", ok, 0}, {"\x00\x00", ok, 0}, {framed(4<<20, high, strings.Repeat("k", 1<<20)), ok, 1 << 20}, {"\x00\x00\x00\x00" + strings.Repeat("k", n), badSize, 0}} {
		f := frame.New(n)
		was := inUse()
		chunk := []byte(framed(n, low, strings.Repeat("b", n-6)) + framed(7, high, "x") + r.rest)
		f.Feed(chunk[:n/2])
		if held := inUse() - was - len(chunk); held > n/2+n/4 {
			t.Errorf("P24.7: %d bytes are kept of %d", held, n/2)
		}
		l, err := f.Feed(chunk[n/2:])
		if len(l) != 2 || err != r.err {
			t.Errorf("P24.2: %s, %v", shortParcels(l), err)
		}
		chunk, l = nil, nil
		if kept := inUse() - was; kept > r.kept+r.kept/4+(1<<19) {
			t.Errorf("P24.7: %d bytes are kept, want %d", kept, r.kept)
		}
		runtime.KeepAlive(f)
	}
}
