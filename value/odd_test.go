package value_test

import (
	"fmt"
	"slices"
	"testing"

	"stencil/api"
	"stencil/prim"
	"stencil/value"
)

// wantOdd asks whether a word is odd, of a field of a type between two others, and of one that is optional.
func wantOdd(t *testing.T, what string, of kind, w uint64, odd, oddOptional bool) {
	t.Helper()
	for _, x := range []struct {
		changes []change
		odd     bool
	}{{nil, odd}, {[]change{optional}, oddOptional}} {
		f := made(t, 0, field("a", one(api.Uint8)), field("f", of, x.changes...), field("z", one(api.Uint8)))
		m := tree("M a=1 f= z=1")
		m[2].Words = []uint64{w}
		var want []int
		if x.odd {
			want = []int{2}
		}
		if got := value.Odd(f, m); !slices.Equal(got, want) {
			t.Errorf("P16.7: %s: %#x, optional %v: Odd = %d, want %d", what, w, x.changes != nil, got, want)
		}
	}
}

// P16.7: of Float and Double no word is odd, whatever Null, Min and Max are.
func TestOddFloats(t *testing.T) {
	for _, p := range []api.Prim{api.Float, api.Double} {
		for _, changes := range [][]change{nil, {null(5)}, {within(3, 4)}, {within(4, 3)}, {null(0), within(1, 1)}} {
			f := made(t, 0, field("f", array(p, 5, changes...)))
			m := []api.Val{{Depth: 1, Name: "M"}, {Depth: 2, Kind: api.ValField, Name: "f", Words: []uint64{prim.Null(p), prim.Max(p), 0, 5, 1 << 31}}}
			if e, _ := value.Check(f, m); e != ok || value.Odd(f, m) != nil {
				t.Errorf("P16.7: %d: Odd = %d, %d", p, value.Odd(f, m), e)
			}
		}
	}
}

// P16.7: of a set a bit that has no Choice, whatever its Null is and whether it may be null or not.
func TestOddSets(t *testing.T) {
	for _, x := range []struct {
		bits []uint64
		w    uint64
		odd  bool
	}{
		{nil, 0, false}, {nil, 1, true}, {nil, 255, true},
		{[]uint64{0, 5}, 0, false}, {[]uint64{0, 5}, 0x21, false}, {[]uint64{5, 0}, 0x20, false}, {[]uint64{0, 5}, 0x22, true}, {[]uint64{0, 5}, 2, true}, {[]uint64{0, 5}, 255, true},
		{[]uint64{0, 1, 2, 3, 4, 5, 6, 7}, 255, false}, {[]uint64{0, 1, 2, 3, 4, 5, 6}, 255, true},
	} {
		for _, changes := range [][]change{nil, {null(x.w)}, {within(3, 2)}, {optional}} {
			wantOdd(t, fmt.Sprint("a set of ", x.bits), set(one(api.Uint8, changes...), x.bits...), x.w, x.odd, x.odd)
		}
	}
	for _, x := range []struct {
		p   api.Prim
		bit uint64
	}{{api.Uint16, 15}, {api.Uint32, 31}, {api.Uint64, 63}} {
		wantOdd(t, "the highest bit", set(one(x.p), x.bit), 1<<x.bit, false, false)
		wantOdd(t, "the highest bit", set(one(x.p), x.bit-1), 1<<x.bit, true, true)
		wantOdd(t, "all bits", set(one(x.p), x.bit), prim.Null(x.p), true, true)
	}
}

// P16.7: null, where neither the field nor its leaf is optional, but for Char.
func TestOddNulls(t *testing.T) {
	for p := api.Char; p < api.Float; p++ {
		odd := p != api.Char
		wantOdd(t, fmt.Sprint("null of ", p), one(p), prim.Null(p), odd, false)
		wantOdd(t, fmt.Sprint("null of ", p, ", optional"), one(p, optional), prim.Null(p), false, false)
		// A null of its own, inside the range or not, and the type's, which isn't null then.
		wantOdd(t, fmt.Sprint("a null of its own of ", p), one(p, null(40)), 40, odd, false)
		wantOdd(t, fmt.Sprint("a null out of the range of ", p), one(p, null(40), within(50, 60)), 40, odd, false)
		wantOdd(t, fmt.Sprint("a null that isn't of ", p), one(p, null(40)), prim.Null(p), true, true)
		wantOdd(t, fmt.Sprint("a null that isn't of ", p, ", optional"), one(p, null(40), optional), prim.Null(p), true, true)
		wantOdd(t, fmt.Sprint("an enum's null of ", p), enum(one(p), 41, 42), prim.Null(p), odd, false)
		wantOdd(t, fmt.Sprint("an enum's null of ", p, ", optional"), enum(one(p, optional), 41, 42), prim.Null(p), false, false)
		// One that a Choice has, too, is null all the same.
		wantOdd(t, fmt.Sprint("an enum's null of ", p, " with a Choice"), enum(one(p, null(41)), 42, 41), 41, odd, false)
	}
}

// P16.7: of an enum what no Choice has, whatever its Min and Max are.
func TestOddEnums(t *testing.T) {
	for p := api.Char; p < api.Float; p++ {
		of := enum(one(p, within(100, 50)), 66, 1, 65, 120)
		for w, odd := range map[uint64]bool{66: false, 1: false, 65: false, 120: false, 2: true, 0x40: true, 100: true, 67: true, 127: true} {
			wantOdd(t, fmt.Sprint("an enum of ", p), of, w, odd, odd)
		}
		wantOdd(t, fmt.Sprint("an enum without Choices of ", p), enum(one(p)), 5, true, true)
	}
	minus := uint64(1<<64 - 1)
	wantOdd(t, "a signed one", enum(one(api.Int8), minus, 3), minus, false, false)
	wantOdd(t, "a signed one", enum(one(api.Int8), 3), minus, true, true)
	// The last Choice of a long list, and what lies between.
	var even []uint64
	for i := range uint64(3000) {
		even = append(even, 2*i)
	}
	slices.Reverse(even)
	for _, w := range []uint64{0, 2, 3000, 5996, 5998} {
		wantOdd(t, "a long enum", enum(one(api.Uint16), even...), w, false, false)
		wantOdd(t, "a long enum", enum(one(api.Uint16), even...), w+1, true, true)
	}
	wantOdd(t, "a long enum", enum(one(api.Uint16), even...), 6000, true, true)
}

// P16.7: of any other what stands ahead of Min or behind Max, in the value's order.
func TestOddRanges(t *testing.T) {
	for p := api.Char; p < api.Float; p++ {
		of := one(p, within(50, 60))
		for w, odd := range map[uint64]bool{49: true, 50: false, 55: false, 60: false, 61: true, 1: true, 127: true} {
			wantOdd(t, fmt.Sprint("a range of ", p), of, w, odd, odd)
		}
		// A range in which nothing lies.
		for _, w := range []uint64{50, 55, 60} {
			wantOdd(t, fmt.Sprint("no range of ", p), one(p, within(60, 50)), w, true, true)
		}
		ends := map[uint64]bool{prim.Min(p): false, prim.Max(p): false}
		if p == api.Char {
			ends = map[uint64]bool{32: false, 126: false, 31: true, 127: true, 128: true, 255: true, 1: true}
		}
		for w, odd := range ends {
			wantOdd(t, fmt.Sprint("the ends of ", p), one(p), w, odd, odd)
		}
		if prim.Signed(p) {
			of := one(p, within(1<<64-3, 2))
			for w, odd := range map[uint64]bool{1<<64 - 4: true, 1<<64 - 3: false, 1<<64 - 1: false, 0: false, 2: false, 3: true} {
				wantOdd(t, fmt.Sprint("a signed range of ", p), of, w, odd, odd)
			}
		}
	}
}

// P16.7: a field is told once, by whichever of its words is odd; the numbers are those of nodes, and rise; constants have no words.
func TestOddFields(t *testing.T) {
	of := composite(fixed(api.Uint8, 255), array(api.Uint8, 2, within(0, 9)), set(one(api.Uint8), 1), enum(one(api.Uint8), 5), one(api.Double), one(api.Int8, optional))
	f := made(t, 0, field("a", one(api.Uint8)), field("c", of), constant("k", one(api.Uint8)),
		plain("g", api.Uint8, field("x", array(api.Int16, 2)), data("e", api.Uint8)), data("d", api.Uint8))
	for _, x := range []struct {
		said string
		want []int
	}{
		{"M a=1 c=0,9,2,5,7,-128 g{ - x=1,2 e$ } d$", nil},
		{"M a=255 c=0,9,2,5,7,-128 g{ - x=1,2 e$ } d$", []int{1}},
		{"M a=1 c=10,9,2,5,7,0 g{ } d$", []int{2}},
		{"M a=1 c=9,10,2,5,7,0 g{ } d$", []int{2}},
		{"M a=1 c=9,255,2,5,7,0 g{ } d$", []int{2}},
		{"M a=1 c=9,9,3,5,7,0 g{ } d$", []int{2}},
		{"M a=1 c=9,9,0,6,7,0 g{ } d$", []int{2}},
		{"M a=1 c=9,9,0,255,7,0 g{ } d$", []int{2}},
		{"M a=1 c=11,12,1,1,1,1 g{ } d$", []int{2}},
		{"M a=255 c=9,9,1,5,7,0 g{ - x=1,2 e$\x00 - x=1,-32768 e$ - x=-32768,1 e$ - x=0,0 e$ } d$\x00", []int{1, 2, 8, 11}},
	} {
		if got := value.Odd(f, tree(x.said)); !slices.Equal(got, x.want) {
			t.Errorf("P16.7: Odd of %s = %d, want %d", x.said, got, x.want)
		}
	}
	m := tree("M a=255 c=9,9,1,5,7,0 g{ } d$")
	m[4].Depth = 3
	if got := value.Odd(f, m); len(got) != 0 {
		t.Errorf("P16.7: Odd of no tree = %d", got)
	}
	// A Choice of a later version than the form's is one of its Choices.
	g := made(t, 0, field("f", enum(one(api.Uint8), 5)))
	g.Tokens[4].Since = 9
	wantForm(t, g)
	if got := value.Odd(g, tree("M f=5")); len(got) != 0 {
		t.Errorf("P16.7: with a Choice of a later version: %d", got)
	}
}
