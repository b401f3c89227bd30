package dec_test

import (
	"math"
	"slices"
	"strings"
	"testing"

	"stencil/api"
	"stencil/dec"
	"stencil/ir"
	"stencil/project"
)

// over is a decoder whose message is the bytes.
func over(t testing.TB, reader int, s string) *dec.Decoder {
	t.Helper()
	d := begin(t, made(t, chapter), reader)
	if err := d.Wrap([]byte(s), 0); err != ok {
		t.Fatalf("Wrap = %v", err)
	}
	return d
}

func wantField(t testing.TB, d *dec.Decoder, name string, words ...uint64) {
	t.Helper()
	if got, err := d.Field(name); err != ok || !slices.Equal(got, words) {
		t.Errorf("Field(%s) = %d, %v, not %d", name, got, err, words)
	}
}

func wantGroup(t testing.TB, d *dec.Decoder, name string, n int, must api.Errno) {
	t.Helper()
	if got, err := d.Group(name); err != must || got != n {
		t.Errorf("Group(%s) = %d, %v, not %d, %v", name, got, err, n, must)
	}
}

func wantData(t testing.TB, d *dec.Decoder, name, s string, must api.Errno) {
	t.Helper()
	if got, err := d.Data(name); err != must || got != s {
		t.Errorf("Data(%s) = %s, %v, not %s, %v", name, short(got), err, short(s), must)
	}
}

func wantSkip(t testing.TB, d *dec.Decoder, n int, must api.Errno) {
	t.Helper()
	if got, err := d.Skip(); err != must || got != n {
		t.Errorf("Skip = %d, %v, not %d, %v", got, err, n, must)
	}
}

// P19.1 to P19.6: the chapter's first three examples.
func TestExamples(t *testing.T) {
	d := over(t, 2, sample)
	want(t, "1: Acting", d.Acting(), 1)
	want(t, "1: End", d.End(), 11)
	wantField(t, d, "c", 65535)
	wantField(t, d, "a", 9)
	wantField(t, d, "b", math.MaxUint64-1)
	wantGroup(t, d, "g", 1, ok)
	want(t, "1: Next", d.Next(), ok)
	wantField(t, d, "x", 4)
	wantData(t, d, "d", "hi", ok)
	want(t, "1: End", d.End(), 18)
	want(t, "1: Done", d.Done(), false)
	wantData(t, d, "n", "", ok)
	want(t, "1: Done", d.Done(), true)
	want(t, "1: End", d.End(), 18)
	wantSkip(t, d, 18, ok)

	d = over(t, 0, sample)
	_, err := d.Field("c")
	want(t, "2: Field c", err, api.ErrOrder)
	wantSkip(t, d, 18, ok)
	want(t, "2: Done", d.Done(), true)
	_, err = d.Field("a")
	want(t, "2: Field a", err, api.ErrOrder)

	d = over(t, 1, newer)
	want(t, "3: Acting", d.Acting(), 2)
	wantGroup(t, d, "g", 0, ok)
	wantData(t, d, "d", "", ok)
	want(t, "3: Done", d.Done(), true)
	want(t, "3: End", d.End(), 17)
	wantSkip(t, d, 19, ok)
	d = over(t, 2, newer)
	wantField(t, d, "c", 1)
	wantGroup(t, d, "g", 0, ok)
	wantData(t, d, "d", "", ok)
	wantData(t, d, "n", "x", ok)
	want(t, "3: End", d.End(), 19)
}

// P19.2, P19.3, P19.5: the chapter's fourth and fifth examples.
func TestExamplesRefused(t *testing.T) {
	d := begin(t, made(t, chapter), 2)
	for i, x := range []struct {
		at   int
		put  byte
		must api.Errno
	}{{0, 2, api.ErrBlock}, {0, 4, ok}, {6, 3, api.ErrActing}, {4, 8, api.ErrSchemaID}} {
		if err := d.Wrap(with([]byte(sample), x.at, x.put), 0); err != x.must {
			t.Errorf("P19.2: row %d: Wrap = %v, not %v", i, err, x.must)
		}
	}
	// The block is a byte longer.
	want(t, "Wrap", d.Wrap([]byte("\x04"+sample[1:11]+"?"+sample[11:]), 0), ok)
	want(t, "End", d.End(), 12)
	wantGroup(t, d, "g", 1, ok)
	want(t, "End", d.End(), 15)

	d = over(t, 2, sample[:17])
	wantSkip(t, d, 0, api.ErrShort)
	wantGroup(t, d, "g", 1, ok)
	want(t, "Next", d.Next(), ok)
	wantData(t, d, "d", "", api.ErrShort)
	wantSkip(t, d, 0, api.ErrShort)
	want(t, "Wrap of 10", d.Wrap([]byte(sample[:10]), 0), api.ErrShort)

	d = over(t, 2, string(with([]byte(sample), 11, 0)))
	wantGroup(t, d, "g", 0, api.ErrBlock)
	d = over(t, 2, string(with([]byte(sample), 11, 0, 0, 0)))
	wantGroup(t, d, "g", 0, ok)

	for _, reader := range []int{3, -1} {
		if d, err := dec.New(made(t, chapter), reader); d != nil || err != api.ErrVersion {
			t.Errorf("P19.1: New(f, %d) = %v, %v", reader, d, err)
		}
	}
}

// P19.1: what ir.Check refuses has no decoder, whatever the reader.
func TestNew(t *testing.T) {
	whole := made(t, "a:uint8 k! b:(int16,.,<uint8>,[uint16],=char*2) g{16 x:uint8*3 h{8 } e$16 } d$32 +4")
	refused := func(what string, f api.Form) {
		t.Helper()
		for _, reader := range []int{0, 2, -1, 3, math.MinInt, math.MaxInt} {
			if d, err := dec.New(f, reader); d != nil || err != api.ErrTokens {
				t.Errorf("P19.1: New of %s and %d = %v, %v", what, reader, d, err)
			}
		}
	}
	refused("nothing", api.Form{})
	for i := range whole.Tokens {
		f := whole
		f.Tokens = whole.Tokens[:i]
		refused("the first tokens", f)
		f.Tokens = slices.Delete(slices.Clone(whole.Tokens), i, i+1)
		refused("all tokens but one", f)
		for _, n := range []int{math.MinInt, -1, math.MaxInt} {
			refused("a Pair that is none", changed(whole, i, func(t *api.Token) { t.Pair = n }))
			refused("an Op that is none", changed(whole, i, func(t *api.Token) { t.Op = api.TokenOp(n) }))
		}
		refused("a name that is none", changed(whole, i, func(t *api.Token) { t.Name = "" }))
	}
	for _, n := range []int{math.MinInt, -1, math.MaxInt} {
		for what, f := range map[string]api.Form{
			"an order that is none":   {Order: api.Endian(n), Schema: 7, Version: 2, Head: whole.Head, Tokens: whole.Tokens},
			"a schema that is none":   {Schema: n, Version: 2, Head: whole.Head, Tokens: whole.Tokens},
			"a version that is none":  {Schema: 7, Version: n, Head: whole.Head, Tokens: whole.Tokens},
			"a header of no size":     {Schema: 7, Version: 2, Head: api.Head{Size: n}, Tokens: whole.Tokens},
			"a block that is none":    changed(whole, 0, func(t *api.Token) { t.Block = n }),
			"a full that is none":     changed(whole, 0, func(t *api.Token) { t.Full = n }),
			"a field beside its room": changed(whole, placeOf(whole, "b"), func(t *api.Token) { t.Offset = n }),
			"a group of no size":      changed(whole, placeOf(whole, "g"), func(t *api.Token) { t.Size = n }),
			"data of no size":         changed(whole, placeOf(whole, "d"), func(t *api.Token) { t.Size = n }),
		} {
			refused(what, f)
		}
	}
	newTwin(t, whole, 2)
}

// P19.1: readers of every version of a form, and of those below its message's and above its own.
func TestReaders(t *testing.T) {
	for _, x := range []struct {
		said        string
		first, last int
	}{{chapter, 0, 2}, {"@1 a:uint8 b@2:uint8", 1, 2}, {"@2 a:uint8", 2, 2}, {"", 0, 65534}, {"@300 d$8", 300, 65534}} {
		f := unchecked(x.said)
		f.Version = x.last
		for _, reader := range []int{math.MinInt, math.MinInt32, -2, -1, 0, 1, 2, 3, 4, 299, 300, 301, 65533, 65534, 65535, 65536, 1 << 32, 1<<32 + 2, math.MaxInt32, math.MaxInt} {
			d, err := dec.New(f, reader)
			must := api.ErrVersion
			if x.first <= reader && reader <= x.last {
				must = ok
			}
			if err != must || (d == nil) != (must != ok) {
				t.Errorf("P19.1: New of %q and %d = %v, %v, not %v", x.said, reader, d, err, must)
			}
		}
	}
}

// P19.1: forms by chance with something otherwise, and any readers: New refuses just what ir.Check and project.At refuse.
func TestNewByChance(t *testing.T) {
	forms, none := 0, 0
	for seed := range int64(2000) {
		r := newDice(seed)
		f := r.turned(r.form())
		reader := r.Intn(8) - 1
		must, _ := ir.Check(f)
		if must == ok {
			_, must = project.At(f, reader)
		}
		d, err := dec.New(f, reader)
		if err != must || (d == nil) != (err != ok) {
			t.Fatalf("P19.1: seed %d: New = %v, %v, not %v\n%+v", seed, d, err, must, f)
		}
		if err != ok {
			none++
			continue
		}
		forms++
		newTwin(t, f, reader).row(r, 10)
	}
	if forms < 100 || none < 100 {
		t.Errorf("%d forms, %d that are none", forms, none)
	}
}

// every is a call of each Kind and of Kinds that are none, with names that are there and that aren't.
func every() []api.Call {
	var out []api.Call
	for _, kind := range []api.CallKind{math.MinInt, -1, api.CallField, api.CallGroup, api.CallNext, api.CallData, 4, 5, 256, math.MaxInt} {
		for _, name := range []string{"", "a", "b", "c", "x", "g", "d", "n", "M", "no"} {
			out = append(out, api.Call{Kind: kind, Name: name}, api.Call{Kind: kind, Name: name, Words: []uint64{1}, Count: 1, Text: "t"}, api.Call{Kind: kind, Name: name, Words: []uint64{256}, Count: -1})
		}
	}
	return out
}

// P19.3, P19.5, P19.6: ahead of any Wrap, and behind Wraps that are refused, no message is begun.
func TestNoMessage(t *testing.T) {
	w := newTwin(t, made(t, chapter), 2)
	ask := func() {
		t.Helper()
		for _, c := range every() {
			w.refuse(c, api.ErrWrap)
		}
		w.must(api.ErrWrap, w.skip(), "Skip")
		want(t, "Acting", w.d.Acting(), 0)
		want(t, "End", w.d.End(), 0)
		want(t, "Done", w.d.Done(), false)
	}
	ask()
	for must, b := range map[api.Errno]string{
		api.ErrShort: sample[:10], api.ErrSchemaID: string(with([]byte(sample), 4, 8)), api.ErrTemplate: string(with([]byte(sample), 2, 4)),
		api.ErrActing: string(with([]byte(sample), 6, 3)), api.ErrBlock: string(with([]byte(sample), 0, 2)),
	} {
		w.must(must, w.wrap(w.buffer(3, []byte(b)), 3), "Wrap")
		ask()
	}
	w.must(api.ErrBuffer, w.wrap(w.buffer(0, []byte(sample)), 19), "Wrap")
	ask()
	// Also of a message that is whole as soon as it begins.
	f := made(t, "a:uint8")
	w = newTwin(t, f, 2)
	want(t, "Done", w.d.Done(), false)
	w.must(ok, w.wrap(w.buffer(0, written(t, f, 1)), 0), "Wrap")
	want(t, "Done", w.d.Done(), true)
}

// The machine and the cursor that a decoder embeds are there from the beginning on.
func TestEmbedded(t *testing.T) {
	d := begin(t, made(t, chapter), 1)
	want(t, "Inside", d.Inside(), 0)
	want(t, "Left", len(d.Left()), 0)
	want(t, "Copy", d.Copy() != nil, true)
	want(t, "At, Start, Room", [3]int{d.At(), d.Start(), d.Room()}, [3]int{})
	want(t, "Wrap", d.Wrap([]byte("??"+sample), 2), ok)
	wantGroup(t, d, "g", 1, ok)
	want(t, "Left", slices.Equal(d.Left(), []int{1}), true)
	want(t, "Next", d.Next(), ok)
	// The reader's form has no c: g is the eighth token.
	want(t, "Inside", d.Inside(), 7)
	want(t, "Left", slices.Equal(d.Left(), []int{0}), true)
	want(t, "At, Start, Room", [3]int{d.At(), d.Start(), d.Room()}, [3]int{17, 2, 3})
}

// P19.1: the form is copied: what becomes of it behind New is nothing to the decoder.
func TestFormIsCopied(t *testing.T) {
	said := "a:uint8 k! b:(int16,.,<uint8>,=char*2) z@2:[uint16~9] g{16 x:uint8*3 h{8 y:int64 } e$16 } d$32 +4"
	f := made(t, said)
	f.Tokens = append(slices.Clone(f.Tokens), api.Token{Name: "spare"})[:len(f.Tokens)]
	for i := range f.Tokens {
		if len(f.Tokens[i].Const) == 0 {
			f.Tokens[i].Const = make([]uint64, 0, 3)
		}
	}
	d := begin(t, f, 2)
	want(t, "the token behind the form", f.Tokens[:len(f.Tokens)+1][len(f.Tokens)].Name, "spare")
	must := made(t, said)
	want(t, "the form behind New", project.Same(f, must), true)
	for i := range f.Tokens {
		words := f.Tokens[i].Const[:cap(f.Tokens[i].Const)]
		for k := range words {
			words[k] = 77
		}
		f.Tokens[i] = api.Token{Op: api.Choice, Name: "gone", Block: 9, Full: 9, Size: 9, Offset: 9}
	}
	calls := []api.Call{set("b", 1, 2), set("a", 3), count("g", 1), next(), set("x", 4, 5, 6), count("h", 1), next(), set("y", 7), text("e", "eee"), text("d", "ddd")}
	for version := range 3 {
		w := &twin{t: t, d: d, m: newSecond(must, 2)}
		w.must(ok, w.wrap(w.buffer(3, written(t, must, version, calls...)), 3), "Wrap")
		w.all(plain(calls[:2])...)
		w.all(field("z"))
		w.all(plain(calls[2:])...)
		w.refuse(field("k"), api.ErrOrder)
		want(t, "Done", d.Done(), true)
	}
}

// P19.3: Kinds that are none are refused at every place of a message, whatever else they bring.
func TestKinds(t *testing.T) {
	w := wrapped(t, made(t, chapter), 2, 2, []byte(sample))
	ask := func() {
		t.Helper()
		for _, kind := range []api.CallKind{math.MinInt, math.MinInt32, -2, -1, 4, 5, 255, 256, math.MaxInt32, math.MaxInt} {
			for _, name := range []string{"a", "g", "x", "d", ""} {
				w.refuse(api.Call{Kind: kind, Name: name, Words: []uint64{1}, Count: 1, Text: "t"}, api.ErrOrder)
			}
		}
	}
	ask()
	for _, c := range []api.Call{field("a"), group("g"), next(), field("x"), data("d"), data("n")} {
		w.all(c)
		ask()
	}
	w.must(ok, w.skip(), "Skip")
	ask()
}

// P19.3: of a call only Kind and Name are looked at, and of next not even the Name; what isn't told is zero.
func TestClutter(t *testing.T) {
	d := over(t, 2, sample)
	words := []uint64{1 << 60, 2, 3}
	for _, x := range []struct {
		call api.Call
		must api.Told
	}{
		{api.Call{Kind: api.CallField, Name: "a", Words: words, Count: -7, Text: "t"}, api.Told{Words: []uint64{9}}},
		{api.Call{Kind: api.CallField, Name: "c", Words: words, Count: -7, Text: "t"}, api.Told{Words: []uint64{65535}}},
		{api.Call{Kind: api.CallGroup, Name: "g", Words: words, Count: 200, Text: "t"}, api.Told{Count: 1}},
		{api.Call{Kind: api.CallNext, Name: "no", Words: words, Count: math.MaxInt, Text: "t"}, api.Told{}},
		{api.Call{Kind: api.CallData, Name: "d", Words: words, Count: math.MinInt, Text: strings.Repeat("t", 300)}, api.Told{Text: "hi"}},
		{api.Call{Kind: api.CallData, Name: "n", Words: words, Count: 1, Text: "t"}, api.Told{}},
	} {
		told, err := d.Do(x.call)
		if err != ok || !slices.Equal(told.Words, x.must.Words) || told.Count != x.must.Count || told.Text != x.must.Text {
			t.Errorf("P19.3: %s = %s, %v, not %s", short(x.call), short(told), err, short(x.must))
		}
	}
	want(t, "the words", slices.Equal(words, []uint64{1 << 60, 2, 3}), true)
}
