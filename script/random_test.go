package script_test

import (
	"slices"
	"strings"
	"testing"

	"stencil/api"
	"stencil/project"
	"stencil/script"
)

// forms are some that scripts are played with.
func forms(t *testing.T) []api.Form {
	list := []api.Form{little(t, 2, grown), made(t, 2, "bigEndian", grown), little(t, 1, chapter), little(t, 3, ""),
		little(t, 1, `<group name="g" id="1" dimensionType="wide"><field name="a" id="2" type="chars"/><group name="g" id="3"><data name="d" id="4" type="short"/></group></group><data name="x" id="5" type="long"/>`)}
	for version := range 2 {
		f, e := project.At(list[version], version)
		if e != ok {
			t.Fatal(e)
		}
		list = append(list, f)
	}
	return list
}

// P25.1, P25.2: calls by chance, said in all ways: the line is read as the call, and so is the line that is printed.
func TestRandomCalls(t *testing.T) {
	all, said := forms(t), 0
	for seed := range int64(20000) {
		r := newDice(seed)
		c := r.call(all[r.Intn(len(all))])
		line := r.line(c)
		if e := hold(t, line); e == ok {
			said++
		} else if !strings.ContainsAny(line, "-x+") && e != api.ErrTooBig {
			t.Fatalf("%s is refused: %v", short(line), e)
		}
		s, e := script.Print(c)
		if e != ok {
			t.Fatalf("P25.2: Print(%s) = %v", shown(c), e)
		}
		means(t, s, c)
		for range 3 {
			line = r.spoilt(line)
			hold(t, line)
		}
	}
	if said < 15000 {
		t.Errorf("only %d lines were taken", said)
	}
}

// holdWrite plays a script over a buffer that lies inside greater memory, and holds lines and bytes against what the second look says.
func holdWrite(t *testing.T, f api.Form, whole []byte, size, at int, s string) []string {
	t.Helper()
	must := slices.Clone(whole)
	got := script.Write(f, whole[8:8+size], at, s)
	want := writeAgain(f, must[8:8+size:8+size], at, s)
	told(t, "P25.4: "+short(s), got, strings.Join(want, "\n"))
	if !slices.Equal(whole, must) {
		t.Fatalf("P25.4: %s: the bytes are %x\nnot %x", short(s), whole, must)
	}
	return got
}

func holdRead(t *testing.T, f api.Form, reader int, b string, at int, s string) []string {
	t.Helper()
	is := []byte(b)
	got := script.Read(f, reader, is, at, s)
	told(t, "P25.5: "+short(s), got, strings.Join(readAgain(f, reader, []byte(b), at, s), "\n"))
	if string(is) != b {
		t.Fatalf("P25.5: %s: the buffer is written to", short(s))
	}
	return got
}

// counts adds what lines begin with to those that were seen.
func counts(seen map[string]int, what string, lines []string) {
	for _, line := range lines {
		if !strings.HasPrefix(line, "!") {
			line, _, _ = strings.Cut(line, " ")
		}
		seen[what+" "+line]++
	}
}

// P25.4, P25.5: scripts by chance, written over buffers of any size, and then read, by readers of any version, what was written and what is spoilt of it.
func TestRandomScripts(t *testing.T) {
	all := forms(t)
	seen := map[string]int{}
	for seed := range int64(6000) {
		r := newDice(seed)
		f := all[r.Intn(len(all))]
		list := r.calls(f)
		size := pick(r, r.Intn(40), r.Intn(300), 1000)
		whole := make([]byte, 16+size)
		r.Read(whole)
		at := pick(r, 0, 0, 0, r.Intn(9)-2, size-r.Intn(20))
		counts(seen, "write", holdWrite(t, f, whole, size, at, r.script(list)))
		b := string(whole[8 : 8+size])
		if at >= 0 && at < size && r.oneIn(3) {
			b = b[:at] + r.turned(b[at:])
		}
		for range 2 {
			reader := r.Intn(f.Version + 1)
			if r.oneIn(12) {
				reader = pick(r, -1, f.Version+1)
			}
			counts(seen, "read", holdRead(t, f, reader, b, at, r.script(list)))
		}
	}
	for what, least := range map[string]int{
		"write ok": 10000, "write done": 500, "write open": 500, "write ! E250": 300, "write ! E30": 100, "write ! E31": 300, "write ! E23": 20, "write ! E140": 300, "write ! E141": 50, "write ! E161": 50, "write ! E162": 30, "write ! E11": 300, "write ! E170": 50,
		"read ok": 3000, "read =": 8000, "read done": 500, "read open": 500, "read ! E250": 300, "read ! E140": 300, "read ! E141": 5, "read ! E11": 300, "read ! E130": 300, "read ! E192": 20, "read ! E190": 20, "read ! E191": 20, "read ! E193": 20, "read ! E170": 50,
	} {
		if seen[what] < least {
			t.Errorf("only %d lines were '%s': %v", seen[what], what, seen)
		}
	}
}
