package frame_test

import (
	"slices"
	"strings"
	"testing"
	"unsafe"

	"stencil/api"
	"stencil/frame"
)

// within tells whether a text lies in a list's memory, its spare room too.
func within(s string, b []byte) bool {
	if len(s) == 0 || cap(b) == 0 {
		return false
	}
	from := uintptr(unsafe.Pointer(unsafe.SliceData(b[:1])))
	at := uintptr(unsafe.Pointer(unsafe.StringData(s)))
	return at < from+uintptr(cap(b)) && from < at+uintptr(len(s))
}

func bytesOf(s string) []byte { return unsafe.Slice(unsafe.StringData(s), len(s)) }

// P0.1: a chunk is neither changed nor kept, nor is the room behind it; what was answered stays.
func TestFeedKeepsNothing(t *testing.T) {
	s := framed(9, low, "abc") + framed(8, high, "de") + framed(10, low, "fghi")
	for first := range len(s) {
		f := frame.New(100)
		var got []api.Parcel
		for _, piece := range []string{s[:first], s[first:], s[:first], s[first:]} {
			whole := []byte(piece + "behind")
			chunk := whole[:len(piece)]
			l, err := f.Feed(chunk)
			if err != ok || string(whole) != piece+"behind" {
				t.Errorf("P0.1: Feed(%s) = %v, and the chunk is %q", shown(piece), err, whole)
			}
			for _, p := range l {
				if within(p.Body, whole) {
					t.Errorf("P0.1: the body %q lies in the chunk", p.Body)
				}
			}
			for i := range whole {
				whole[i] = 0xEE
			}
			got = append(got, l...)
		}
		three := list(parcel(low, "abc"), parcel(high, "de"), parcel(low, "fghi"))
		if want := append(three, three...); !slices.Equal(got, want) {
			t.Errorf("P0.1: cut at %d: %s", first, shortParcels(got))
		}
	}
}

// P0.1: what one Feed answered isn't touched by the next one, nor by what the caller writes over another answer.
func TestFeedAnswersNewLists(t *testing.T) {
	f := frame.New(100)
	s := framed(8, low, "ab") + framed(8, high, "cd") + framed(8, low, "ef")
	first, _ := f.Feed([]byte(s + s[:5]))
	was := slices.Clone(first)
	second, _ := f.Feed([]byte(s[5:] + "\x00\x00\x00\x00"))
	for i := range second[:cap(second)] {
		second[:cap(second)][i] = parcel(1, "spoilt")
	}
	_ = append(first, parcel(2, "spoilt"), parcel(3, "spoilt"))
	if !slices.Equal(first, was) || len(first) != 3 {
		t.Errorf("P0.1: %s", shortParcels(first))
	}
	third, err := f.Feed([]byte(s))
	if len(third) > 0 || err != badSize {
		t.Errorf("P24.2: %s, %v", shortParcels(third), err)
	}
}

// P0.1: the bodies that Split answers, and the text that Wrap answers, are new memory.
func TestSplitAndWrapAnswerNewTexts(t *testing.T) {
	body := strings.Clone(strings.Repeat("body", 20))
	s, _ := frame.Wrap(parcel(low, body))
	if within(s, bytesOf(body)) {
		t.Error("P0.1: the frame lies in the body's memory")
	}
	both := s + s
	l, n, err := frame.Split(100, both)
	if len(l) != 2 || n != len(both) || err != ok {
		t.Fatalf("P24.1: %s, %d, %v", shortParcels(l), n, err)
	}
	again, _, _ := frame.Split(100, both)
	for _, p := range append(again, l[0]) {
		if within(p.Body, bytesOf(both)) || within(p.Body, bytesOf(l[1].Body)) {
			t.Error("P0.1: a body lies in other memory")
		}
	}
}
