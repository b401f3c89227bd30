package look_test

import (
	"math"
	"math/rand"
	"regexp"
	"slices"
	"strconv"
	"strings"
	"testing"

	"stencil/api"
	"stencil/look"
)

func wantPath(t testing.TB, s string, want []api.Step) {
	t.Helper()
	if p, e, at := look.Path(s); e != ok || at != 0 || !slices.Equal(p, want) {
		t.Errorf("P21.4: Path(%.99q) = %.99v, %v, %d; want %.99v", s, p, e, at, want)
	}
	if got, e := look.Text(want); got != s || e != ok {
		t.Errorf("P21.5: Text(%.99v) = %.99q, %v; want %.99q", want, got, e, s)
	}
}

func refusePath(t testing.TB, s string, want int) {
	t.Helper()
	if p, e, at := look.Path(s); e != api.ErrPath || at != want || len(p) != 0 {
		t.Errorf("P21.4: Path(%.99q) = %.99v, %v, %d; want the place %d", s, p, e, at, want)
	}
}

func refuseText(t testing.TB, path ...api.Step) {
	t.Helper()
	if s, e := look.Text(path); s != "" || e != api.ErrPath {
		t.Errorf("P21.5: Text(%.99v) = %.99q, %v", path, s, e)
	}
}

// The chapter's examples 6 and 7.
func TestExamplePaths(t *testing.T) {
	wantPath(t, "legs[2].price", []api.Step{{Name: "legs", Entry: 2}, {Name: "price", Entry: -1}})
	wantPath(t, "", nil)
	wantPath(t, "", []api.Step{})
	wantPath(t, "a[0]", []api.Step{{Name: "a"}})
	for s, at := range map[string]int{".a": 0, "a.": 2, "a[01]": 3, "a[65536]": 6, "a[]": 2, "a[1": 3, "a[1]b": 4, "1a": 0, strings.Repeat("a", 65): 64} {
		refusePath(t, s, at)
	}
	refuseText(t, api.Step{Name: "", Entry: -1})
	refuseText(t, api.Step{Name: "a", Entry: -2})
	refuseText(t, api.Step{Name: "a", Entry: 65536})
}

// aStep says one by the chapter's words, and said a whole path.
const aStep = `[A-Za-z_][A-Za-z0-9_]{0,63}(\[(0|[1-9][0-9]{0,3}|[1-5][0-9]{4}|6[0-4][0-9]{3}|65[0-4][0-9]{2}|655[0-2][0-9]|6553[0-5])\])?`

var said = regexp.MustCompile(`^(` + aStep + `(\.` + aStep + `)*)?$`)

// isFront tells whether a text may go on to one that says a path: if at all it does by one of these.
func isFront(s string) bool {
	for _, more := range []string{"", "a", "]", "0]"} {
		if said.MatchString(s + more) {
			return true
		}
	}
	return false
}

// holdPath asks Path of any text, against the regular expression; and Text of what it answers.
func holdPath(t testing.TB, s string) {
	t.Helper()
	if said.MatchString(s) {
		var want []api.Step
		if s != "" {
			want = steps(s)
		}
		wantPath(t, s, want)
		return
	}
	at := 0
	for at < len(s) && isFront(s[:at+1]) {
		at++
	}
	refusePath(t, s, at)
}

// P21.4, P21.5: all short texts of the bytes that a path has, and of one that it hasn't, behind some beginnings.
func TestShortTexts(t *testing.T) {
	n := 0
	var walk func(s string, more int)
	walk = func(s string, more int) {
		n++
		holdPath(t, s)
		if more == 0 || t.Failed() {
			return
		}
		for _, c := range "a_01.[] " {
			walk(s+string(c), more-1)
		}
	}
	walk("", 5)
	for _, front := range []string{"Z9", "a[1].b", "ab[65", "ab[6553", "a[10].b[0", strings.Repeat("x", 63), "a." + strings.Repeat("y", 62)} {
		walk(front, 3)
	}
	if n < 30000 {
		t.Errorf("only %d texts", n)
	}
}

// P21.4: every byte at every place of some paths.
func TestBytesOfPaths(t *testing.T) {
	for _, s := range []string{"", "a", "a[7]", "ab.cd[10].e", "_[0]._", "A1[65535].z_9"} {
		for c := range 256 {
			for at := range len(s) + 1 {
				holdPath(t, s[:at]+string([]byte{byte(c)})+s[at:])
				if at < len(s) {
					holdPath(t, s[:at]+string([]byte{byte(c)})+s[at+1:])
				}
			}
		}
		// What it begins with, and what it ends with.
		for at := range len(s) + 1 {
			holdPath(t, s[:at])
			holdPath(t, s[at:])
		}
	}
	for _, s := range []string{"é", "aé", "a[é]", "a[٣]", "a\x00", "\x00", "a[0]\x00", "a.\xff", "a [0]", "a[ 0]", "a[0 ]", "a[+1]", "a[-1]", "a[-0]", "a[1_0]", "a[0x1]", "a[1.0]", "a[1][2]", "a[[1]]", "a]1[", "a..b", "a.[1]", "a.1", "a:b", "a/b", "[0]", "[", "]", "."} {
		holdPath(t, s)
	}
}

// P21.4, P21.5: numbers of entries: all that may stand there, and such as may not.
func TestNumbers(t *testing.T) {
	for n := range 65536 {
		s := "a[" + strconv.Itoa(n) + "]"
		want := []api.Step{{Name: "a", Entry: n}}
		p, e, at := look.Path(s)
		if e != ok || at != 0 || !slices.Equal(p, want) {
			t.Fatalf("P21.4: Path(%q) = %v, %v, %d", s, p, e, at)
		}
		if got, e := look.Text(want); got != s || e != ok {
			t.Fatalf("P21.5: Text(%v) = %q, %v", want, got, e)
		}
	}
	for digits, at := range map[string]int{
		"65536": 6, "65537": 6, "65540": 6, "65600": 6, "66000": 6, "70000": 6, "99999": 6, "655360": 6, "655350": 7, "100000": 7, "123456": 7, "999999": 6,
		"4294967296": 7, "18446744073709551616": 7, strings.Repeat("1", 300): 7, strings.Repeat("9", 300): 6, strings.Repeat("0", 300): 3, "00": 3, "01": 3, "000": 3, "065535": 3, "0a": 3, "1a": 3, "": 2, " ": 2, "-1": 2, "+1": 2, "a": 2,
	} {
		refusePath(t, "a["+digits+"]", at)
		refusePath(t, "a["+digits, min(at, 2+len(digits)))
		refusePath(t, "a[65535].b["+digits+"].c", at+9)
	}
	for _, n := range []int{-2, -3, -65535, -65536, 65536, 65537, 131071, 1 << 32, 1<<32 - 1, 1<<32 + 5, math.MinInt32, math.MinInt, math.MaxInt, math.MaxInt - 1} {
		refuseText(t, api.Step{Name: "a", Entry: n})
		refuseText(t, api.Step{Name: "a", Entry: 1}, api.Step{Name: "b", Entry: n})
		refuseText(t, api.Step{Name: "a", Entry: n}, api.Step{Name: "b", Entry: -1})
	}
}

// P21.4, P21.5: names, up to the longest, and such as are none.
func TestNames(t *testing.T) {
	for n := 1; n <= 64; n++ {
		name := strings.Repeat("_", n-1) + "Z"
		wantPath(t, name, []api.Step{{Name: name, Entry: -1}})
		wantPath(t, "a."+name+"[3]."+name, []api.Step{{Name: "a", Entry: -1}, {Name: name, Entry: 3}, {Name: name, Entry: -1}})
	}
	for _, n := range []int{65, 66, 128, 129, 1000, 1 << 16} {
		name := strings.Repeat("n", n)
		refusePath(t, name, 64)
		refusePath(t, "a[12]."+name+"[1]", 70)
		refuseText(t, api.Step{Name: name, Entry: -1})
		refuseText(t, api.Step{Name: "a", Entry: 0}, api.Step{Name: name, Entry: 3})
	}
	// The 65th byte may end the name.
	long := strings.Repeat("n", 64)
	refusePath(t, long+"[", 65)
	refusePath(t, long+".", 65)
	refusePath(t, long+" ", 64)
	for _, name := range []string{"", " ", "1", "1a", "a b", "a.b", "a[0]", "a[", "[0]", ".", "é", "aé", "a-b", "a:b", "\x00", "a\x00", "a\xff", " a", "a "} {
		refuseText(t, api.Step{Name: name, Entry: -1})
		refuseText(t, api.Step{Name: name})
		refuseText(t, api.Step{Name: "a", Entry: -1}, api.Step{Name: name, Entry: -1}, api.Step{Name: "b", Entry: -1})
	}
}

// P21.5: any path has a text, whether or not it is one of a form: entries anywhere, none anywhere, many steps.
func TestAnyPath(t *testing.T) {
	wantPath(t, "a.b.c", []api.Step{{Name: "a", Entry: -1}, {Name: "b", Entry: -1}, {Name: "c", Entry: -1}})
	wantPath(t, "a[1].b[2]", []api.Step{{Name: "a", Entry: 1}, {Name: "b", Entry: 2}})
	wantPath(t, "a.b[65535].a", []api.Step{{Name: "a", Entry: -1}, {Name: "b", Entry: 65535}, {Name: "a", Entry: -1}})
	many := slices.Repeat([]api.Step{{Name: "a", Entry: 10}, {Name: strings.Repeat("b", 64), Entry: -1}}, 50000)
	text := strings.Repeat("a[10]."+strings.Repeat("b", 64)+".", 50000)
	wantPath(t, text[:len(text)-1], many)
	refusePath(t, text, len(text))
	refusePath(t, text+"!", len(text))
	refuseText(t, append(slices.Clone(many), api.Step{Name: "a", Entry: -2})...)
}

// P21.4, P21.5: paths and texts by chance.
func TestRandomPaths(t *testing.T) {
	r := rand.New(rand.NewSource(1))
	const bytes = "abzAZ_019.[].[]0 \x00\xff"
	for range 30000 {
		var path []api.Step
		for range r.Intn(5) {
			name := []byte{bytes[r.Intn(6)]}
			for range r.Intn(5) {
				name = append(name, bytes[r.Intn(9)])
			}
			path = append(path, api.Step{Name: string(name), Entry: []int{-1, 0, r.Intn(10), r.Intn(65536), 65535}[r.Intn(5)]})
		}
		s, e := look.Text(path)
		if e != ok || s != say(path) {
			t.Fatalf("P21.5: Text(%v) = %q, %v", path, s, e)
		}
		wantPath(t, s, path)
		b := []byte(s)
		for range r.Intn(3) {
			at := r.Intn(len(b) + 1)
			switch c := bytes[r.Intn(len(bytes))]; {
			case r.Intn(2) == 0:
				b = slices.Insert(b, at, c)
			case at < len(b) && r.Intn(2) == 0:
				b[at] = c
			case at < len(b):
				b = slices.Delete(b, at, at+1)
			}
		}
		holdPath(t, string(b))
	}
}
