package sbe_test

import (
	"fmt"
	"slices"
	"strings"
	"testing"

	"stencil/api"
	"stencil/sbe"
	"stencil/value"
)

// asked are codecs with what they are held against.
type asked struct {
	text  string
	codec *sbe.Codec
	again second
}

func askedAll(t *testing.T) (list []asked) {
	for _, text := range []string{shop, mixed, strings.Replace(shop, `version="1"`, `version="1" byteOrder="bigEndian"`, 1), plain(1, "", longer)} {
		c, again := both(t, text)
		list = append(list, asked{text, c, again})
	}
	return list
}

func enough(t *testing.T, seen map[string]int, least map[string]int) {
	t.Helper()
	for what, n := range least {
		if seen[what] < n {
			t.Errorf("only %d were '%s': %v", seen[what], what, seen)
		}
	}
}

// P26.2 to P26.4: trees by chance, right ones and wrong ones, at all versions; and their bytes, spoilt or with others behind them, for all readers. What is read is what value.Project says of the tree.
func TestRandomMessages(t *testing.T) {
	all, seen := askedAll(t), map[string]int{}
	for seed := range int64(2500) {
		r := newDice(seed)
		x := all[r.Intn(len(all))]
		name, version := r.message(x.again.s)
		f, e := holdForm(t, x.codec, x.again, name, version)
		if e != ok {
			seen[fmt.Sprint("form ", e)]++
			continue
		}
		m := r.tree(f)
		right := !r.oneIn(4)
		if !right {
			m = r.spoiltTree(m)
		}
		s, e := holdEncode(t, x.codec, x.again, name, version, m)
		seen[fmt.Sprint("encode ", e)]++
		if e != ok {
			if right {
				t.Fatalf("P26.3: %v is refused: %v", m, e)
			}
			continue
		}
		whole, _ := x.codec.Form(name, x.again.s.Version)
		for reader := -1; reader < x.again.s.Version+2; reader++ {
			holdDecode(t, x.codec, x.again, reader, r.turned(s))
			_, got, n, e := holdDecode(t, x.codec, x.again, reader, s+r.bytes(20))
			seen[fmt.Sprint("decode ", e)]++
			want, err := value.Project(whole, m, version, reader)
			if e != err || !sameNodes(got, want) || n != len(s) && e == ok {
				t.Fatalf("P26.4: of %v at %d a reader of %d sees %v, %d, %v; want %v, %d, %v", m, version, reader, got, n, e, want, len(s), err)
			}
		}
	}
	enough(t, seen, map[string]int{"form E260": 100, "form E130": 100, "encode E0": 1200, "encode E160": 120, "encode E161": 10, "encode E162": 10, "decode E0": 2000, "decode E130": 2000})
}

// P26.5: streams by chance, cut anywhere.
func TestRandomStreams(t *testing.T) {
	all, seen := askedAll(t), map[string]int{}
	for seed := range int64(1500) {
		r := newDice(seed)
		x := all[r.Intn(len(all))]
		var s strings.Builder
		for range r.Intn(6) {
			name, version := r.message(x.again.s)
			body := r.bytes(30)
			if f, e := x.again.form(name, version); e == ok {
				body, _ = x.again.encode(name, version, r.tree(f))
			}
			if r.oneIn(5) {
				body = r.turned(body)
			}
			encoding := []int{60240, 23520}[x.again.s.Order]
			if r.oneIn(10) {
				encoding = pick(r, 60240, 23520)
			}
			frame := framed(encoding, body)
			if r.oneIn(20) {
				frame = r.turned(frame)
			}
			s.WriteString(frame)
		}
		var chunks [][]byte
		for b := []byte(s.String()); len(b) > 0; {
			n := min(len(b), r.Intn(pick(r, 3, 30, 300)))
			chunks, b = append(chunks, b[:n]), b[n:]
		}
		reader := r.Intn(x.again.s.Version + 1)
		if r.oneIn(10) {
			reader = pick(r, -1, x.again.s.Version+1)
		}
		lines, e := holdStream(t, x.codec, x.again, reader, chunks)
		seen[fmt.Sprint("stream ", e)]++
		for _, line := range lines {
			if !strings.HasPrefix(line, "!") {
				line, _, _ = strings.Cut(line, " ")
			}
			seen[line]++
		}
	}
	enough(t, seen, map[string]int{"stream E0": 1000, "stream E240": 20, "stream E241": 10, "Order": 500, "All": 50, "None": 50, "Late": 50, "M": 100, "! E241": 50, "! E130": 50, "! E11": 50, "! E191": 20, "! E260": 20, "! E240": 50, "! E192": 5})
}

// P26.6: scripts by chance, over buffers of any size.
func TestRandomRuns(t *testing.T) {
	all, seen := askedAll(t), map[string]int{}
	for seed := range int64(1500) {
		r := newDice(seed)
		x := all[r.Intn(len(all))]
		name, version := r.message(x.again.s)
		var lines []string
		if f, e := x.again.form(name, version); e == ok {
			calls, e := value.Calls(f, r.tree(f))
			if e != ok {
				t.Fatal(e)
			}
			for _, c := range calls {
				word := [...]string{"field", "group", "next", "data"}[c.Kind]
				said := strings.Trim(strings.Join(strings.Fields(fmt.Sprint(c.Words)), ","), "[]")
				switch c.Kind {
				case api.CallGroup:
					said = fmt.Sprint(c.Count)
				case api.CallData:
					said = `""`
				}
				lines = append(lines, strings.TrimRight(word+" "+c.Name+" "+said, " "))
			}
		}
		calls := strings.Join(lines, "\n")
		for r.oneIn(3) {
			calls = r.spoilt(calls)
		}
		told, _, e := holdRun(t, x.codec, x.again, name, version, r.bytes(pick(r, 20, 200, 2000)), pick(r, 0, 0, 0, -1, r.Intn(30)), calls)
		seen[fmt.Sprint("run ", e)]++
		if len(told) > 0 {
			seen[told[len(told)-1]]++
		}
	}
	enough(t, seen, map[string]int{"run E0": 1000, "run E260": 50, "run E130": 50, "done": 200, "open": 100, "! E11": 20, "! E170": 50})
}

// P26.7: talks by chance, right lines and wrong ones; each line tells the same by itself.
func TestRandomTalks(t *testing.T) {
	all, seen := askedAll(t), map[string]int{}
	for seed := range int64(300) {
		r := newDice(seed)
		x := all[r.Intn(len(all))]
		var lines []string
		for range r.Intn(30) {
			lines = append(lines, r.line(x.again), pick(r, "", " ", "\t", "\r ", "frob"))
		}
		r.Shuffle(len(lines), func(i, k int) { lines[i], lines[k] = lines[k], lines[i] })
		holdTalk(t, x.text, x.again, strings.Join(lines, "\n")+pick(r, "", "\n", "\n\n "))
		for _, line := range slices.Compact(lines) {
			word, _, _ := strings.Cut(line, " ")
			if got := x.again.talk(line); strings.HasPrefix(got, "! ") {
				seen[got]++
			} else if got != "" {
				seen[word]++
			}
		}
	}
	enough(t, seen, map[string]int{"messages": 100, "outline": 100, "news": 100, "form": 100, "nulls": 100, "encode": 200, "decode": 150, "dump": 80, "turn": 150, "get": 200,
		"! E261\n": 500, "! E130\n": 100, "! E260\n": 100, "! E210\n": 50, "! E11\n": 50, "! E191\n": 20, "! E192\n": 20, "! E1\n": 20, "! E30\n": 20, "! E230\n": 20})
}
