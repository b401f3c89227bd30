package paths_test

import (
	"fmt"
	"math"
	"math/rand"
	"slices"
	"strings"
	"testing"

	"stencil/api"
	"stencil/ir"
	"stencil/paths"
)

// dice makes forms, messages of them, and changes of forms.
type dice struct{ *rand.Rand }

func newDice(seed int64) dice { return dice{rand.New(rand.NewSource(seed))} }

// names are some of a few, each once, so that unlike blocks have parts of the same names.
func (r dice) names() func() string {
	order := r.Perm(12)
	return func() string {
		name := string(rune('a' + order[0]))
		order = order[1:]
		return name
	}
}

// body is what a message or group holds, as words.
func (r dice) body(depth int) string {
	var out strings.Builder
	name := r.names()
	for range r.Intn(4) {
		fmt.Fprint(&out, name(), []string{"", "", "", "!", "=", "?", "~", "%", "+", "|", "#"}[r.Intn(11)], " ")
	}
	for range r.Intn(4 - min(depth, 2)) {
		if depth < 4 {
			fmt.Fprint(&out, name(), []string{"(", "[", "{"}[r.Intn(3)], " ", r.body(depth+1), "; ")
		}
	}
	for range r.Intn(3) {
		fmt.Fprint(&out, name(), "$ ")
	}
	return out.String()
}

// message is one of a form by the recursion, of not too many entries.
func (r dice) message(f api.Form, bs map[int]block) []api.Call {
	var cs []api.Call
	most := 10
	var run func(b block)
	run = func(b block) {
		for len(b.fields) > 0 && r.Intn(3) > 0 {
			cs = append(cs, field(b.fields[r.Intn(len(b.fields))]))
		}
		for _, k := range b.row {
			t := f.Tokens[k]
			if t.Op == api.BeginData {
				cs = append(cs, data(t.Name))
				continue
			}
			n := min(r.Intn(4)*r.Intn(2), most)
			most -= n
			cs = append(cs, group(t.Name, n))
			for range n {
				cs = append(cs, next())
				run(bs[k])
			}
		}
	}
	run(bs[0])
	return cs
}

// P15.1 to P15.6: forms by chance, and fronts of their messages.
func TestFrontsByChance(t *testing.T) {
	walks := 0
	for seed := range int64(150) {
		r := newDice(seed)
		f := made(t, r.body(0))
		bs, candidates := blocks(f), tried(f, -1, 0, 1, 300)
		message := r.message(f, bs)
		for i := 0; i <= len(message); i += 1 + r.Intn(3) {
			cs := message[:i]
			if i < 30 {
				agree(t, f, bs, cs, candidates)
				wantCount(t, f, cs, 3, int(seed%4), brute(t, f, cs, 3, int(seed%4)))
			}
			if n, most := 1+r.Intn(12), r.Intn(4); summed(t, f, cs, n, most) < 1000000000 {
				wantCount(t, f, cs, n, most, summed(t, f, cs, n, most))
			} else {
				wantCount(t, f, cs, n, most, 1000000000)
			}
		}
		if e, at := paths.Accepts(f, message); e != ok || at != 0 {
			t.Fatalf("P15.1: seed %d: Accepts of %s = %d, %d", seed, say(message), e, at)
		}
		for most := range 4 {
			if agreeWalk(t, f, bs, most) {
				walks++
			}
		}
	}
	if walks < 200 {
		t.Errorf("%d walks to their ends", walks)
	}
}

// P15.1 to P15.4: calls by chance, most of which aren't taken.
func TestCallsByChance(t *testing.T) {
	taken := 0
	for seed := range int64(2000) {
		r := newDice(seed)
		f := made(t, r.body(0))
		bs, candidates := blocks(f), tried(f, math.MinInt, -1, 0, 1, 2, 254, 255, 65534, 65536, math.MaxInt)
		cs := r.message(f, bs)
		cs = cs[:r.Intn(len(cs)+1)]
		for range 1 + r.Intn(3) {
			cs = slices.Insert(cs, r.Intn(len(cs)+1), candidates[r.Intn(len(candidates))])
		}
		if r.Intn(2) == 0 {
			i := r.Intn(len(cs))
			cs = slices.Delete(cs, i, i+1)
		}
		v := second(f, bs, cs)
		wantAccepts(t, f, cs, v.err, v.at)
		if v.err != ok {
			wantWord(t, f, cs)
		} else {
			taken++
			wantNext(t, f, cs, nextOf(f, bs, cs, candidates))
		}
	}
	if taken < 100 || taken > 1900 {
		t.Errorf("%d are taken", taken)
	}
}

// turned is a form with something changed.
func (r dice) turned(f api.Form) api.Form {
	f = tidy(f)
	i, k := r.Intn(len(f.Tokens)), r.Intn(len(f.Tokens))
	t := &f.Tokens[i]
	numbers := []*int{&f.Schema, &f.Version, &f.Head.Size, &f.Head.Block.Offset, &t.ID, &t.Offset, &t.Size, &t.Since, &t.Length, &t.Block, &t.Full, &t.A.Offset, &t.B.Offset, &t.Pair}
	switch r.Intn(9) {
	case 0:
		f.Tokens[i], f.Tokens[k] = f.Tokens[k], f.Tokens[i]
	case 1:
		f.Tokens = slices.Delete(f.Tokens, i, i+1)
	case 2: // away with a whole part or type
		if t.Pair > i {
			f.Tokens = slices.Delete(f.Tokens, i, t.Pair+1)
		}
	case 3:
		t.Op = api.TokenOp(r.Intn(18) - 1)
	case 4:
		t.Name = f.Tokens[k].Name
	case 5:
		t.Presence = api.Presence(r.Intn(5) - 1)
	case 6:
		name := f.Tokens[k].Name
		f.Tokens[t.Pair].Name, t.Name = name, name
	default:
		n := numbers[r.Intn(len(numbers))]
		*n = []int{math.MinInt, -1, 0, 1, *n - 1, *n + 1, 65535, 65536, math.MaxInt}[r.Intn(9)]
	}
	if r.Intn(2) == 0 {
		f.Tokens = paired(f.Tokens...)
	}
	return f
}

// tidy is a form in memory of its own.
func tidy(f api.Form) api.Form {
	f.Tokens = append([]api.Token(nil), f.Tokens...)
	for i := range f.Tokens {
		f.Tokens[i].Const = append([]uint64(nil), f.Tokens[i].Const...)
	}
	return f
}

// P15.1 to P15.5: changes of forms: what ir.Check refuses is refused ahead of all else, and nothing else is.
func TestFormsByChance(t *testing.T) {
	forms, none := 0, 0
	for seed := range int64(3000) {
		r := newDice(seed)
		f := r.turned(made(t, r.body(0)))
		if e, _ := ir.Check(f); e != ok {
			none++
			wantTokens(t, fmt.Sprint("seed ", seed), f)
			continue
		}
		forms++
		bs := blocks(f)
		agree(t, f, bs, nil, tried(f, 0, 255))
		follows(t, f, bs, 1+r.Intn(3), 10)
	}
	if forms < 300 || none < 300 {
		t.Errorf("%d forms, %d that are none", forms, none)
	}
}
