package paths_test

import (
	"fmt"
	"math"
	"slices"
	"strings"
	"testing"

	"stencil/api"
	"stencil/paths"
)

// Example 1 of the chapter.
func TestChapterAccepts(t *testing.T) {
	f := made(t, chapter)
	wantAccepts(t, f, calls("a g=1 > e$ d$"), ok, 0)
	wantAccepts(t, f, calls("a >"), api.ErrOrder, 1)
	wantAccepts(t, f, calls("g=-1"), api.ErrCount, 0)
	wantAccepts(t, f, nil, ok, 0)
	wantAccepts(t, f, []api.Call{}, ok, 0)
}

// Examples 2 and 3 of the chapter.
func TestChapterNextAndShortest(t *testing.T) {
	f := made(t, chapter)
	for _, x := range []struct{ calls, next, shortest string }{
		{"", "a g=0", "g=0 d$"}, {"g=2", ">", "> e$ > e$ d$"}, {"g=2 >", "x e$", "e$ > e$ d$"}, {"g=2 > e$", ">", "> e$ d$"}, {"g=0", "d$", "d$"}, {"g=0 d$", "", ""},
	} {
		wantNext(t, f, calls(x.calls), x.next)
		wantShortest(t, f, calls(x.calls), x.shortest)
	}
	wantWord(t, f, calls("d$"))
}

// Example 4 of the chapter.
func TestChapterCount(t *testing.T) {
	f := made(t, chapter)
	wantCount(t, f, nil, 0, 2, 1)
	wantCount(t, f, nil, 1, 2, 4)
	wantCount(t, f, nil, 2, 1, 5)
	for _, x := range [][2]int{{13, 1}, {1, 4}} {
		if got, e := paths.Count(f, nil, x[0], x[1]); got != 0 || e != api.ErrArg {
			t.Errorf("P15.4: Count of %v = %d, %d", x, got, e)
		}
	}
}

// Examples 5 and 6 of the chapter.
func TestChapterWalk(t *testing.T) {
	f := made(t, chapter)
	wantWalk(t, f, 1, "g=0 d$", "g=1 > e$ d$")
	wantWalk(t, f, 0, "g=0 d$")
	wantWalk(t, f, 4)
	wantWalk(t, made(t, "g( ; h( ;"), 1, "g=0 h=0", "g=0 h=1 >", "g=1 > h=0", "g=1 > h=1 >")
}

// parted has groups of each dimension, in one another and side by side.
const parted = "a k! g{ x h[ y i( z ; e$ ; e$ ; j( ; d$ e$"

// P15.1: the first error, and its number, at the beginning, in the middle and at the end, whatever comes behind it.
func TestAcceptsRefused(t *testing.T) {
	f := made(t, parted)
	for _, x := range []struct {
		calls string
		err   api.Errno
		at    int
	}{
		{"k", api.ErrOrder, 0}, {"x", api.ErrOrder, 0}, {">", api.ErrOrder, 0}, {"d$", api.ErrOrder, 0}, {"a d$ g=1", api.ErrOrder, 1}, {"g=0 a", api.ErrOrder, 1}, {"g=0 j=0 e$ d$", api.ErrOrder, 2},
		{"g=-1", api.ErrCount, 0}, {"a a g=-2 g=1", api.ErrCount, 2}, {"g=4294967295 d$", api.ErrCount, 0}, {"g=1 > h=65535", api.ErrCount, 2}, {"g=1 > h=1 > i=255 e$ e$ j=0 d$ e$", api.ErrCount, 4},
		{"g=65537", api.ErrEntries, 0}, {"a g=65530 > h=7 d$", api.ErrEntries, 3}, {"g=65530 > h=5 > i=2", api.ErrEntries, 4}, {"g=65530 > h=5 > i=1 > e$ > i=1 >", api.ErrEntries, 8},
		{"g=1 > h=0 e$ >", api.ErrOrder, 4}, {"g=1 > h=0 e$ j=1 > d$ e$ a", api.ErrOrder, 8}, {"g=1 > h=0 e$ j=1 > d$ e$ e$", api.ErrOrder, 8}, {"g=1 > h=0 e$ j=1 > j=-1", api.ErrOrder, 6},
	} {
		wantAccepts(t, f, calls(x.calls), x.err, x.at)
		wantAccepts(t, f, calls(x.calls)[:x.at], ok, 0)
		wantWord(t, f, calls(x.calls))
	}
	// What is refused isn't passed over: the first of several is told, though what is behind it would be taken without it.
	wantAccepts(t, f, calls("a d$ d$ g=-1 >"), api.ErrOrder, 1)
	wantAccepts(t, f, calls("a g=-1 g=0 j=0"), api.ErrCount, 1)
	wantWord(t, f, calls("a d$ a"))
}

// P15.1 to P15.4: a Kind that is none is never taken.
func TestKinds(t *testing.T) {
	f := made(t, chapter)
	front := calls("a g=1 > x e$ d$")
	for _, k := range []api.CallKind{-1, 4, 5, -4, 1 << 32, 1<<32 + 1, -1 << 32, math.MaxInt, math.MinInt, math.MaxInt - 3, math.MinInt + 1} {
		for at := range len(front) + 1 {
			for _, name := range []string{"", "a", "g", "x", "e", "d"} {
				cs := slices.Insert(slices.Clone(front), at, kind(k, name))
				wantAccepts(t, f, cs, api.ErrOrder, at)
				wantWord(t, f, cs)
			}
		}
	}
}

// P15.1 to P15.4: Words, Text, the Name of CallNext, and the Count of all but groups aren't looked at; Next and Shortest tell none of them.
func TestNotLookedAt(t *testing.T) {
	f := made(t, chapter)
	plain := calls("a a g=2 > x e$ > x")
	for _, count := range []int{0, 1, -1, 70000, math.MaxInt, math.MinInt} {
		cs := slices.Clone(plain)
		for i := range cs {
			cs[i].Words, cs[i].Text = []uint64{1, math.MaxUint64}, "any \xff"
			if cs[i].Kind != api.CallGroup {
				cs[i].Count = count
			}
			if cs[i].Kind == api.CallNext {
				cs[i].Name = []string{"", "g", "nothing", "\xff\x00"}[i%4]
			}
		}
		for at := range len(cs) + 1 {
			wantAccepts(t, f, cs[:at], ok, 0)
			for n := range 4 {
				want, e := paths.Count(f, plain[:at], n, 3)
				if e != ok {
					t.Fatalf("P15.4: error %d", e)
				}
				wantCount(t, f, cs[:at], n, 3, want)
			}
			if got, e := paths.Shortest(f, plain[:at]); e != ok {
				t.Errorf("P15.3: error %d", e)
			} else {
				wantShortest(t, f, cs[:at], say(got))
			}
		}
		wantNext(t, f, cs[:2], "a g=0")
		wantNext(t, f, cs[:3], ">")
		wantNext(t, f, cs, "x e$")
		wantShortest(t, f, cs, "e$ d$")
		cs[2].Count = -1
		wantAccepts(t, f, cs, api.ErrCount, 2)
	}
}

// P15.2, P15.3: at the beginning, in a block whose row has begun, inside groups of groups, where a group's entries are all begun, and where the message is whole.
func TestPlaces(t *testing.T) {
	for _, x := range []struct{ form, calls, next, shortest string }{
		{"", "", "", ""}, {"k! c= n? p~ e%", "", "", ""}, {"a", "", "a", ""}, {"b a", "a b b", "b a", ""}, {"k! z+ c= b| n? a# p~ m e%", "a", "z b a m", ""},
		{"d$", "", "d$", "d$"}, {"d$", "d$", "", ""}, {"a d$ e$", "", "a d$", "d$ e$"}, {"a d$ e$", "a d$", "e$", "e$"}, {"a d$ e$", "d$ e$", "", ""},
		{"g( ;", "", "g=0", "g=0"}, {"g( ;", "g=0", "", ""}, {"g( ;", "g=1", ">", ">"}, {"g( ;", "g=2 >", ">", ">"}, {"g( ;", "g=2 > >", "", ""},
		{"a g( x ;", "g=1 >", "x", ""}, {"a g( x ;", "g=2 > x", "x >", ">"}, {"a g( x ;", "g=2 > > x x", "x", ""}, {"a g( k! ;", "g=1 >", "", ""},
		{"a g( x ; h( y ;", "g=1 >", "x h=0", "h=0"}, {"a g( x ; h( y ;", "g=2 > x", "x >", "> h=0"}, {"a g( x ; h( y ;", "g=1 > h=1", ">", ">"}, {"a g( x ; h( y ;", "g=1 > h=1 >", "y", ""},
		{"g( g( g( e$ ; e$ ; e$ ; e$", "g=2 > g=2 > g=1 >", "e$", "e$ e$ > g=0 e$ e$ > g=0 e$ e$"}, {"g( g( g( e$ ; e$ ; e$ ; e$", "g=2 > g=2 > g=1 > e$", "e$", "e$ > g=0 e$ e$ > g=0 e$ e$"},
		{"g( g( g( e$ ; e$ ; e$ ; e$", "g=2 > g=2 > g=1 > e$ e$", ">", "> g=0 e$ e$ > g=0 e$ e$"}, {"g( g( g( e$ ; e$ ; e$ ; e$", "g=2 > g=2 > g=1 > e$ e$ >", "g=0", "g=0 e$ e$ > g=0 e$ e$"},
		{"g( g( g( e$ ; e$ ; e$ ; e$", "g=2 > g=2 > g=1 > e$ e$ > g=0 e$ e$ >", "g=0", "g=0 e$ e$"}, {"g( g( g( e$ ; e$ ; e$ ; e$", "g=1 > g=1 > g=1 > e$ e$ e$ e$", "", ""},
		{"a g( b h( c i( x ; ; ; o( y ; d$", "g=1 > h=1 > i=1 >", "x o=0", "o=0 d$"}, {"a g( b h( c i( x ; ; ; o( y ; d$", "g=1 > h=1 > i=2 >", "x >", "> o=0 d$"},
		{"a g( b h( c i( x ; ; ; o( y ; d$", "g=1 > h=2 > i=1 >", "x >", "> i=0 o=0 d$"}, {"a g( b h( c i( x ; ; ; o( y ; d$", "g=2 > h=1 > i=1 >", "x >", "> h=0 o=0 d$"},
		{"a g( b h( c i( x ; ; ; o( y ; d$", "g=3 > h=3 > i=3 >", "x >", "> > > i=0 > i=0 > h=0 > h=0 o=0 d$"}, {"a g( b h( c i( x ; ; ; o( y ; d$", "g=1 > b", "b h=0", "h=0 o=0 d$"},
		{"a g( b h( c i( x ; ; ; o( y ; d$", "g=1 > b h=1", ">", "> i=0 o=0 d$"}, {"a g( b h( c i( x ; ; ; o( y ; d$", "g=1 > b h=1 > c", "c i=0", "i=0 o=0 d$"},
		{"a g( b h( c i( x ; ; ; o( y ; d$", "g=1 > b h=0", "o=0", "o=0 d$"}, {"a g( b h( c i( x ; ; ; o( y ; d$", "g=2 > b h=0", ">", "> h=0 o=0 d$"}, {"a g( b h( c i( x ; ; ; o( y ; d$", "g=0 o=1", ">", "> d$"},
		{"a g( b h( c i( x ; ; ; o( y ; d$", "g=0 o=1 >", "y d$", "d$"},
	} {
		f := made(t, x.form)
		wantNext(t, f, calls(x.calls), x.next)
		wantShortest(t, f, calls(x.calls), x.shortest)
	}
}

// P15.2: names of an outer block that are an inner one's too, in another order, as another kind, or of a field that isn't called.
func TestSameNames(t *testing.T) {
	f := made(t, "a b e c! g( c b! d h( a$ ; a$ b1$ ; h( g( ; d$ ; d$ g1$")
	for _, x := range []struct{ form, calls, next, shortest string }{
		{"b a! c g( a c b ;", "", "b c g=0", "g=0"}, {"b a! c g( a c b ;", "g=1 >", "a c b", ""},
		{"g( e$ ; e$", "g=1 >", "e$", "e$ e$"}, {"g( e$ ; e$", "g=1 > e$", "e$", "e$"}, {"g( e$ ; e$", "g=1 > e$ e$", "", ""}, {"g( e$ d$ ; d$ e$", "g=1 > e$ d$", "d$", "d$ e$"},
		{"g( h( ; ; h( g( ; ;", "g=1 > h=1 >", "h=0", "h=0"}, {"g( h( ; ; h( g( ; ;", "g=1 > h=1 > h=1 >", "g=0", "g=0"}, {"g( h( ; ; h( g( ; ;", "g=1 > h=0 h=1 > g=1 >", "", ""},
	} {
		f := made(t, x.form)
		wantNext(t, f, calls(x.calls), x.next)
		wantShortest(t, f, calls(x.calls), x.shortest)
	}
	wantNext(t, f, nil, "a b e g=0")
	wantNext(t, f, calls("g=1 >"), "c d h=0")
	wantNext(t, f, calls("g=1 > h=1 >"), "a$")
	wantNext(t, f, calls("g=1 > h=1 > a$"), "a$")
	wantNext(t, f, calls("g=1 > h=1 > a$ a$"), "b1$")
	wantNext(t, f, calls("g=1 > h=1 > a$ a$ b1$"), "h=0")
	wantNext(t, f, calls("g=1 > h=1 > a$ a$ b1$ h=1 >"), "g=0")
	wantShortest(t, f, calls("g=1 > h=1 > a$ a$ b1$ h=1"), "> g=0 d$ d$ g1$")
}

// many are words with a number put in, one behind the other.
func many(n int, form string) string {
	var out strings.Builder
	for i := range n {
		fmt.Fprintf(&out, strings.ReplaceAll(form, "#", "%[1]d")+" ", i)
	}
	return out.String()
}

// P15.3: just MaxCalls calls, and one more.
func TestLongest(t *testing.T) {
	for _, x := range []struct {
		form, calls string
		want        int // calls; 0: too many
	}{
		{many(api.MaxCalls, "d#$"), "", api.MaxCalls}, {many(api.MaxCalls+1, "d#$"), "", 0}, {many(api.MaxCalls+1, "d#$"), "d0$", api.MaxCalls}, {many(api.MaxCalls+1, "d#$"), "d0$ d1$", api.MaxCalls - 1},
		{many(api.MaxCalls, "g#( ;"), "", api.MaxCalls}, {many(api.MaxCalls, "g#( ;"), "g0=0", api.MaxCalls - 1}, {many(api.MaxCalls, "g#( ;"), "g0=1", api.MaxCalls}, {many(api.MaxCalls, "g#( ;"), "g0=2", 0}, {many(api.MaxCalls+1, "g#( ;"), "", 0},
		{"g{ ; d$", "g=19999", api.MaxCalls}, {"g{ ; d$", "g=20000", 0}, {"g{ ; d$", "g=20000 >", api.MaxCalls}, {"g{ ; d$", "g=65536", 0},
		{"g{ e$ ;", "g=10000", api.MaxCalls}, {"g{ e$ ;", "g=10001", 0}, {"g{ e$ ;", "g=10001 >", 0}, {"g{ e$ ;", "g=10001 > e$", api.MaxCalls},
		{"g{ h{ i( ; ; ;", "g=4999 > h=5001 >", api.MaxCalls - 3}, {"g{ h{ i( ; ; ;", "g=5001 > h=5001", 0}, {"g{ h{ i( ; ; ;", "g=5001 > h=5001 >", 0}, {"g{ h{ i( ; ; ;", "g=5001 > h=5001 > i=0", api.MaxCalls}, {"g{ h{ i( ; ; ;", "g=60000 > h=5536", 0},
		{"g{ " + many(30000, "d#$") + ";", "g=65536", 0}, {many(30000, "f#") + "d$", "", 1},
	} {
		f, cs := made(t, x.form), calls(x.calls)
		got, e := paths.Shortest(f, cs)
		if x.want == 0 {
			if e != api.ErrArg || len(got) != 0 {
				t.Errorf("P15.3: %.30s: Shortest of %s: %d calls, %d", x.form, x.calls, len(got), e)
			}
			continue
		}
		if e != ok || len(got) != x.want {
			t.Errorf("P15.3: %.30s: Shortest of %s: %d calls, %d; want %d", x.form, x.calls, len(got), e, x.want)
		}
		whole := slices.Concat(cs, got)
		wantAccepts(t, f, whole, ok, 0)
		wantNext(t, f, whole, "")
	}
}

// P15.4: the edges of n and most, and which error is first.
func TestCountArguments(t *testing.T) {
	f := made(t, chapter)
	none := made(t, chapter)
	none.Tokens[1].Size = 2
	edges := []int{math.MinInt, math.MinInt + 1, -13, -2, -1, 0, 1, 2, 3, 4, 5, 11, 12, 13, 14, 1 << 32, 1<<32 + 1, math.MaxInt - 1, math.MaxInt}
	for _, n := range edges {
		for _, most := range edges {
			fits := n >= 0 && n <= 12 && most >= 0 && most <= 3
			for _, x := range []struct {
				f    api.Form
				cs   []api.Call
				want api.Errno
			}{{f, nil, ok}, {f, calls("d$"), api.ErrWord}, {f, calls("g=-1"), api.ErrWord}, {f, calls("a g=0 d$ a"), api.ErrWord}, {none, nil, api.ErrTokens}, {none, calls("d$"), api.ErrTokens}, {api.Form{}, calls("a"), api.ErrTokens}} {
				want := x.want
				if !fits && want != api.ErrTokens {
					want = api.ErrArg
				}
				if got, e := paths.Count(x.f, x.cs, n, most); e != want || (got == 0) != (e != ok) {
					t.Errorf("P15.4: Count of %s, %d, %d = %d, %d; want %d", say(x.cs), n, most, got, e, want)
				}
			}
			if len(walked(none, most)) != 0 || len(walked(api.Form{}, most)) != 0 || (len(walked(f, most)) == 0) != (most < 0 || most > 3) {
				t.Errorf("P15.5: Walk of %d", most)
			}
		}
	}
}

func power(a, n int) int {
	out := 1
	for range n {
		out *= a
	}
	return out
}

// flat is how many ways of n calls there are of groups side by side that hold nothing: each is a call, and one for each entry.
func flat(n, most int) int {
	if n <= 0 {
		return 1
	}
	ways := 0
	for count := range most + 1 {
		ways += flat(n-1-count, most)
	}
	return ways
}

// P15.4: numbers that are reckoned by hand.
func TestCountByHand(t *testing.T) {
	for n := range 13 {
		for fields := range 6 {
			// Fields alone: each call is one of them; those that no call names count for nothing.
			wantCount(t, made(t, many(fields, "f#")+"k! c= n? p~ e%"), nil, n, n%4, power(fields, n))
			// Ahead of data: any number of fields, then it, and nothing more.
			want := power(fields, n)
			if n > 0 {
				want += power(fields, n-1)
			}
			wantCount(t, made(t, many(fields, "f#")+"d$"), nil, n, n%4, want)
		}
		// Data alone: one way, as long as there is one.
		want := 1
		if n > 7 {
			want = 0
		}
		wantCount(t, made(t, many(7, "d#$")), nil, n, 3, want)
		for most := range 4 {
			wantCount(t, made(t, many(20, "g#( ;")), nil, n, most, flat(n, most))
			wantCount(t, made(t, "g( x y ;"), calls("g=1 >"), n, most, power(2, n))
		}
	}
	f := made(t, chapter)
	for _, x := range []struct {
		calls         string
		n, most, want int
	}{
		{"", 1, 0, 2}, {"", 1, 1, 3}, {"", 1, 3, 5}, {"g=2", 1, 3, 1}, {"g=2", 2, 3, 2}, {"g=2", 3, 3, 3}, {"g=2 >", 1, 0, 2}, {"g=2 >", 2, 0, 3}, {"g=2 > e$", 2, 0, 2}, {"g=0", 1, 3, 1}, {"g=0", 2, 3, 0}, {"g=0 d$", 0, 0, 1}, {"g=0 d$", 1, 3, 0}, {"g=0 d$", 12, 3, 0},
		{"g=254", 1, 0, 1}, {"g=254 > e$", 1, 0, 1}, {"g=1 > x x e$", 1, 3, 1}, {"g=1 > x x e$", 2, 3, 0},
	} {
		wantCount(t, f, calls(x.calls), x.n, x.most, x.want)
	}
}

// P15.4: 1000000000, if they are more.
func TestCountOfVeryMany(t *testing.T) {
	const top = 1000000000
	for _, x := range []struct {
		form, calls   string
		n, most, want int
	}{
		{many(10, "f#"), "", 8, 0, 100000000}, {many(10, "f#"), "", 9, 0, top}, {many(10, "f#"), "", 10, 0, top}, {many(10, "f#"), "f3", 12, 3, top}, {many(6, "f#"), "", 11, 0, 362797056}, {many(6, "f#"), "", 12, 0, top}, {many(5, "f#"), "", 12, 3, 244140625},
		{many(9, "f#") + "d$", "", 9, 0, 387420489 + 43046721}, {many(9, "f#") + "d$", "", 10, 0, top}, {many(31622, "f#"), "", 2, 0, 999950884}, {many(31622, "f#") + "d$", "", 2, 0, 999950884 + 31622}, {many(31623, "f#"), "", 2, 0, top},
		{many(1000, "f#"), "", 2, 0, 1000000}, {many(1000, "f#"), "", 3, 0, top}, {many(999, "f#") + "d$", "", 3, 0, 997002999 + 998001},
		// Three fields; two and the group; one, the group, and data or an entry; the group, and what comes then.
		{many(999, "f#") + "g( ; d$ e$", "", 3, 0, 997002999 + 998001 + 999 + 1}, {many(999, "f#") + "g( ; d$ e$", "", 3, 1, 997002999 + 2*998001 + 2*999 + 2}, {many(999, "f#") + "g( ; d$ e$", "", 3, 2, 997002999 + 3*998001 + 3*999 + 3}, {many(999, "f#") + "g( ; d$ e$", "", 3, 3, top},
		{many(40000, "f#") + "d$", "", 12, 3, top}, {many(40000, "f#") + "d$", "d$", 12, 3, 0}, {many(40000, "f#") + "g{ " + many(9, "x#") + ";", "g=2 >", 9, 3, 2 * 387420489}, {many(40000, "f#") + "g{ " + many(9, "x#") + ";", "g=3 >", 9, 3, 2*387420489 + 36*4782969}, {many(40000, "f#") + "g{ " + many(9, "x#") + ";", "g=3 >", 10, 3, top}, {many(40000, "f#") + "g{ " + many(9, "x#") + ";", "g=1 >", 9, 3, 387420489},
	} {
		wantCount(t, made(t, x.form), calls(x.calls), x.n, x.most, min(x.want, top))
	}
}

// P15.4: ErrEntries counts.
func TestCountEntries(t *testing.T) {
	f := made(t, "g{ x h( i( ; ; j( ; ;")
	for left := range 8 {
		front := calls(fmt.Sprintf("g=%d >", api.MaxEntries-left))
		for most := range 4 {
			// Field x, and h with as many entries as are left.
			wantCount(t, f, front, 1, most, 1+min(most, left)+1)
			// x and then the same; h with none and then j with as many as are left; h with some, and next.
			wantCount(t, f, front, 2, most, 2+min(most, left)+min(most, left)+1+min(most, left))
			for n := range 8 {
				wantCount(t, f, front, n, most, brute(t, f, front, n, most))
			}
		}
	}
	// With the counts of groups that are over.
	f = made(t, "g{ ; h( i( ; ; j( ;")
	for _, left := range []int{0, 1, 2, 3, 5, 30, 37} {
		front := append(calls(fmt.Sprintf("g=%d", api.MaxEntries-left)), slices.Repeat(calls(">"), api.MaxEntries-left)...)
		m := min(3, left)
		wantCount(t, f, front, 1, 3, m+1)
		// Behind h with none j, behind h with some next.
		wantCount(t, f, front, 2, 3, m+1+m)
		if left > 0 && left < 4 {
			wantCount(t, f, append(slices.Clone(front), calls(fmt.Sprintf("h=%d > i=0", left))...), 1, 3, 1)
		}
		wantCount(t, f, append(front, calls("h=0 j=0")...), 1, 3, 0)
	}
}

// P15.4: places of which all is the same but the entries that are left, or the number of those that are still to begin, are unlike: by g=1 > h=3 > > > and by g=2 > h=0 > h=1 > one comes to the same entry.
func TestCountPlacesApart(t *testing.T) {
	for _, words := range []string{"a{ g( h( ; ; i( ; ;", "a{ g( h( x ; ; i( ; j( ; ;", "a{ g( h( ; h2( ; ; i( y ; ;", "a{ g( g( g( ; ; ; h( ; ;"} {
		f := made(t, words)
		for left := range 12 {
			front := calls(fmt.Sprintf("a=%d >", api.MaxEntries-left))
			for n := range 10 {
				wantCount(t, f, front, n, 3, brute(t, f, front, n, 3))
			}
		}
	}
}

// P15.5: groups side by side and in one another, in their order.
func TestWalkOrder(t *testing.T) {
	wantWalk(t, made(t, ""), 3, "")
	wantWalk(t, made(t, "a b k!"), 3, "")
	wantWalk(t, made(t, "a d$ e$"), 3, "d$ e$")
	wantWalk(t, made(t, "a g( x ;"), 3, "g=0", "g=1 >", "g=2 > >", "g=3 > > >")
	wantWalk(t, made(t, "g( h( ; ;"), 1, "g=0", "g=1 > h=0", "g=1 > h=1 >")
	wantWalk(t, made(t, "g( h( ; e$ ; d$"), 2, "g=0 d$",
		"g=1 > h=0 e$ d$", "g=1 > h=1 > e$ d$", "g=1 > h=2 > > e$ d$",
		"g=2 > h=0 e$ > h=0 e$ d$", "g=2 > h=0 e$ > h=1 > e$ d$", "g=2 > h=0 e$ > h=2 > > e$ d$",
		"g=2 > h=1 > e$ > h=0 e$ d$", "g=2 > h=1 > e$ > h=1 > e$ d$", "g=2 > h=1 > e$ > h=2 > > e$ d$",
		"g=2 > h=2 > > e$ > h=0 e$ d$", "g=2 > h=2 > > e$ > h=1 > e$ d$", "g=2 > h=2 > > e$ > h=2 > > e$ d$")
	wantWalk(t, made(t, "g( h( ; ; i( ;"), 1, "g=0 i=0", "g=0 i=1 >", "g=1 > h=0 i=0", "g=1 > h=0 i=1 >", "g=1 > h=1 > i=0", "g=1 > h=1 > i=1 >")
	wantWalk(t, made(t, "g( ; h( ; i( ;"), 0, "g=0 h=0 i=0")
	for most, want := range []int{1, 8, 27, 64} {
		if got := walked(made(t, "g( ; h( ; i( ;"), most); len(got) != want {
			t.Errorf("P15.5: %d lists, want %d", len(got), want)
		}
	}
}

// P15.5: it may be stopped anywhere, ranged over again, and inside a ranging over it.
func TestWalkRanging(t *testing.T) {
	f := made(t, "g( h( ; e$ ; i( ; d$")
	all := walked(f, 2)
	walk := paths.Walk(f, 2)
	for stop := range len(all) + 1 {
		var got []string
		for cs := range walk {
			if len(got) == stop {
				break
			}
			got = append(got, say(cs))
		}
		if !slices.Equal(got, all[:stop]) {
			t.Fatalf("P15.5: the first %d: %v", stop, got)
		}
	}
	n := 0
	for one := range walk {
		m := 0
		for two := range walk {
			if say(two) != all[m] {
				t.Fatalf("P15.5: the %dth inside: %s, want %s", m, say(two), all[m])
			}
			if m++; m > n {
				break
			}
		}
		if say(one) != all[n] {
			t.Fatalf("P15.5: the %dth: %s, want %s", n, say(one), all[n])
		}
		n++
	}
	if n != len(all) || n < 30 {
		t.Errorf("P15.5: %d lists, want %d", n, len(all))
	}
}

// P15.5: a list is made only as it is asked for: of this form there are more than could ever be gone through. P15.1 to P15.4: all else of it ends soon, too.
func TestManyOfAll(t *testing.T) {
	deep := "deep{ " + strings.Repeat("in{ z y$ ", api.MaxNest-1)
	deep = strings.ReplaceAll(deep, "y$ in", "in") + strings.Repeat("; ", api.MaxNest)
	f := made(t, many(15000, "f#")+many(10000, "g#( x# y h( ; ;")+deep+many(10000, "d#$"))
	for most := range 4 {
		n := 0
		for cs := range paths.Walk(f, most) {
			if e, i := paths.Accepts(f, cs); e != ok || n == 0 && len(cs) != 20001 {
				t.Fatalf("P15.5: list %d of %d calls: %d, %d", n, len(cs), e, i)
			}
			if n++; n == 12 {
				break
			}
		}
		if n != 12 && most > 0 {
			t.Errorf("P15.5: %d lists", n)
		}
		if got, e := paths.Count(f, nil, 12, most); e != ok || got != 1000000000 {
			t.Errorf("P15.4: %d, %d", got, e)
		}
	}
	front := calls(many(15000, "f#"))
	for i := range 10000 {
		front = append(front, group(fmt.Sprint("g", i), i%2))
		if i%2 == 1 {
			front = append(front, next(), field("y"), field(fmt.Sprint("x", i)), group("h", 0))
		}
	}
	if got, e := paths.Next(f, front[:100]); e != ok || len(got) != 15001 || got[14999].Name != "f14999" || got[15000].Name != "g0" {
		t.Errorf("P15.2: %d calls, %d", len(got), e)
	}
	wantNext(t, f, front, "deep=0")
	if got, e := paths.Shortest(f, front); e != ok || len(got) != 10001 {
		t.Errorf("P15.3: %d calls, %d", len(got), e)
	}
	for range 20 {
		// Behind deep with none two data, behind deep with some an entry, and a group in it.
		wantCount(t, f, front, 3, 3, 1+3*4)
	}
	front = append(front, group("deep", 60000))
	for range 60000 {
		front = append(front, next(), group("in", 0))
	}
	wantAccepts(t, f, front, ok, 0)
	wantNext(t, f, front, "d0$")
}

// P15.4: it ends soon of forms in which very many ways lead to very many places, by P15.6 with the right number.
func TestCountOfManyPlaces(t *testing.T) {
	nested := strings.Repeat("g( h( ; i( x ; ", api.MaxNest-1) + "g( ; " + strings.Repeat("; ", api.MaxNest-1)
	for _, words := range []string{nested, many(300, "g#( a b h( c ; ;"), many(5, "g#( a b h( c i( d j( e ; ; ; ;"), strings.Repeat("g( x y z ", 8) + strings.Repeat("; ", 8) + "g2( ;"} {
		f := made(t, words)
		for n := range 13 {
			wantCount(t, f, nil, n, 3, min(summed(t, f, nil, n, 3), 1000000000))
		}
	}
}
