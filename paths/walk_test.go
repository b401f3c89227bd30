package paths

import (
	"fmt"
	"slices"
	"testing"

	"stencil/api"
)

// nested is a form of groups a{ g( h( ; ; i( ; without fields, a's dimension counting by uint32.
func nested() api.Form {
	u8, u16, u32 := api.Spot{Prim: api.Uint8}, api.Spot{Prim: api.Uint16, Offset: 4}, api.Spot{Prim: api.Uint32}
	begin := func(name string, id int, b api.Spot, pair int) api.Token {
		return api.Token{Op: api.BeginGroup, Name: name, ID: id, Size: 6, A: u16, B: b, Pair: pair}
	}
	end := func(name string, pair int) api.Token { return api.Token{Op: api.EndGroup, Name: name, Pair: pair} }
	head := api.Head{Size: 8, Block: api.Spot{Prim: api.Uint16}, Template: api.Spot{Prim: api.Uint16, Offset: 2}, Schema: u16, Version: api.Spot{Prim: api.Uint16, Offset: 6}}
	return api.Form{Head: head, Tokens: []api.Token{
		{Op: api.BeginMessage, Name: "M", Pair: 9},
		begin("a", 1, u32, 8), begin("g", 2, u8, 5), begin("h", 3, u8, 4), end("h", 3), end("g", 2), begin("i", 4, u8, 7), end("i", 6), end("a", 1),
		{Op: api.EndMessage, Name: "M"},
	}}
}

// P15.5: ErrEntries counts. From the first list on none that has so many entries is ever come to, so the walk is begun amid a message: its counts are all those whose sum is at most what is left.
func TestWalkEntries(t *testing.T) {
	for left := range 9 {
		front := []api.Call{{Kind: api.CallGroup, Name: "a", Count: api.MaxEntries - left}}
		m, err := behind(nested(), front)
		if err != api.OK {
			t.Fatalf("error %d", err)
		}
		// The last entry alone.
		for range api.MaxEntries - left - 1 {
			for _, c := range []api.Call{{Kind: api.CallNext}, {Kind: api.CallGroup, Name: "g"}, {Kind: api.CallGroup, Name: "i"}} {
				if err := m.take(c); err != api.OK {
					t.Fatalf("error %d", err)
				}
			}
		}
		var got []string
		w := &walk{most: 3}
		w.over(m.copied(), func(cs []api.Call) bool {
			var counts []int
			further := m.copied()
			for _, c := range cs {
				if err := further.take(c); err != api.OK {
					t.Fatalf("P15.5: %v: error %d", cs, err)
				}
				if c.Kind == api.CallGroup {
					counts = append(counts, c.Count)
				}
			}
			if !further.Done() {
				t.Fatalf("P15.5: %v: not done", cs)
			}
			got = append(got, fmt.Sprint(counts))
			return true
		})
		if want := sums(left); !slices.Equal(got, want) {
			t.Errorf("P15.5: %d left: %d lists, want %d", left, len(got), len(want))
		}
	}
}

// sums are all counts of g, of each h inside it, and of i, whose sum is at most a number, in order.
func sums(left int) []string {
	var out []string
	var entries func(counts []int, n, left int)
	entries = func(counts []int, n, left int) {
		for count := 0; count <= min(3, left); count++ {
			more := append(slices.Clone(counts), count)
			if n == 0 {
				out = append(out, fmt.Sprint(more))
			} else {
				entries(more, n-1, left-count)
			}
		}
	}
	for g := 0; g <= min(3, left); g++ {
		entries([]int{g}, g, left-g)
	}
	return out
}
