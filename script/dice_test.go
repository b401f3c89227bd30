package script_test

import (
	"fmt"
	"math/rand"
	"strings"

	"stencil/api"
	"stencil/enc"
	"stencil/ir"
	"stencil/text"
)

// dice makes lines, scripts and bytes by chance.
type dice struct{ *rand.Rand }

func newDice(seed int64) dice { return dice{rand.New(rand.NewSource(seed))} }

func (r dice) oneIn(n int) bool { return r.Intn(n) == 0 }

func pick[T any](r dice, list ...T) T { return list[r.Intn(len(list))] }

func (r dice) word() uint64 {
	if r.oneIn(8) {
		return pick(r, 255, 256, 1<<64-1, 1<<64-128, r.Uint64(), r.Uint64()>>r.Intn(64))
	}
	return uint64(r.Intn(128))
}

func (r dice) bytes() string {
	b := make([]byte, r.Intn(6))
	for i := range b {
		b[i] = pick(r, byte(r.Intn(256)), byte(r.Intn(256)), 'a', ' ', '"', '\\', '\n', '#')
	}
	return string(b)
}

// call is one for a token, or for none, whether it may come or not.
func (r dice) call(f api.Form) api.Call {
	i := r.Intn(len(f.Tokens))
	t := f.Tokens[i]
	switch t.Op {
	case api.BeginField:
		c := api.Call{Name: t.Name}
		for leaf := range ir.Leaves(f, i) {
			for range f.Tokens[leaf].Length {
				c.Words = append(c.Words, r.word())
			}
		}
		if r.oneIn(6) {
			c.Words = append(c.Words, r.word())
		}
		return c
	case api.BeginGroup:
		return group(t.Name, pick(r, 0, 1, 1, 2, 2, 3, 254, 255, 65536, 65537, 4294967295))
	case api.BeginData:
		return data(t.Name, r.bytes())
	case api.EndGroup, api.EndData, api.Encoding:
		return next()
	}
	return pick(r, next(), field("no"), group("a", 1), data("x", "x"))
}

// calls are some of which most are taken by an encoder.
func (r dice) calls(f api.Form) (list []api.Call) {
	e, err := enc.New(f)
	if err != ok || e.Wrap(make([]byte, 4096), 0) != ok {
		panic("no encoder")
	}
	for range r.Intn(120) {
		c := r.call(f)
		if e.Do(c) == ok || r.oneIn(20) {
			list = append(list, c)
		}
	}
	return list
}

func (r dice) spaces(least int) string { return strings.Repeat(" ", least+max(0, r.Intn(6)-3)) }

func (r dice) number(n uint64) string {
	return pick(r, "%d", "%d", "%d", "%d", "%d", "%d", "+%d", "0%d", "0x%x", "0X%X", "0X%X", "-%d", "%dx")
}

// line says a call in one way of many.
func (r dice) line(c api.Call) string {
	word := [...]string{"field", "group", "next", "data"}[c.Kind]
	s := r.spaces(0) + word
	if c.Kind != api.CallNext {
		s += r.spaces(1) + c.Name
	}
	switch {
	case c.Kind == api.CallField && len(c.Words) > 0:
		var list []string
		for _, w := range c.Words {
			list = append(list, fmt.Sprintf(r.number(w), w))
		}
		s += r.spaces(1) + strings.Join(list, ",")
	case c.Kind == api.CallGroup && (c.Count > 0 || r.oneIn(2)):
		s += r.spaces(1) + fmt.Sprintf(pick(r, "%d", "%d", "%d", "0%d", "000%d", "+%d", "1%09d0"), c.Count)
	case c.Kind == api.CallData && (c.Text != "" || r.oneIn(2)):
		s += r.spaces(1) + r.quoted(c.Text)
	}
	return s + r.spaces(0)
}

func (r dice) quoted(s string) string {
	out := `"`
	for _, b := range []byte(s) {
		plain := strings.Trim(text.Quote(string([]byte{b})), `"`)
		if b == '"' {
			plain = `\"`
		}
		out += pick(r, plain, plain, fmt.Sprintf(`\x%02x`, b), fmt.Sprintf(`\x%02X`, b))
	}
	return out + `"`
}

// script says calls, with lines between them that are none.
func (r dice) script(list []api.Call) string {
	var lines []string
	for _, c := range list {
		for r.oneIn(6) {
			lines = append(lines, pick(r, "", " ", "\t\r ", "#", "# field a 1", "  #next", "\t# \x00"))
		}
		line := r.line(c)
		if r.oneIn(15) {
			line = r.spoilt(line)
		}
		lines = append(lines, line)
	}
	return strings.Join(lines, "\n") + pick(r, "", "\n", "\n\n", "\n# end", "\n ")
}

// turned are bytes with one of them otherwise, mostly of the first.
func (r dice) turned(s string) string {
	b := []byte(s)
	if len(b) > 0 {
		b[r.Intn(min(len(b), pick(r, 8, 8, len(b))))] += pick(r, byte(1), 255, byte(r.Intn(256)))
	}
	return string(b)
}

// spoilt is a text with something otherwise.
func (r dice) spoilt(s string) string {
	b := pick(r, byte(r.Intn(256)), ' ', ' ', '"', '\\', ',', '\n', '\t', '#', '1', 'a')
	if s == "" {
		return string([]byte{b})
	}
	i := r.Intn(len(s))
	switch r.Intn(4) {
	case 0:
		return s[:i] + s[i+1:]
	case 1:
		return s[:i] + string([]byte{b}) + s[i:]
	case 2:
		return s[:i] + string([]byte{b}) + s[i+1:]
	}
	k := i + r.Intn(len(s)-i)
	return s[:i] + s[k:] + s[i:k]
}
