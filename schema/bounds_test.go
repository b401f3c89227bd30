package schema_test

import (
	"fmt"
	"math/rand"
	"runtime"
	"slices"
	"strconv"
	"strings"
	"testing"
	"unsafe"

	"stencil/api"
	"stencil/schema"
	"stencil/types"
)

// at3 is a text of the version 3 with one message since 1 and these parts.
func at3(parts string, more ...string) string {
	return strings.Replace(whole(message("M", 1, parts, append(more, since(1))...)), `version="1"`, `version="3"`, 1)
}

// P9.1: the Since of messages and fields: against the schema's, their holder's, and the field's ahead.
func TestSinceOfFields(t *testing.T) {
	top := func(s string) string { return strings.Replace(whole(s), `version="1"`, `version="3"`, 1) }
	for n := range 4 {
		taken(t, top(message("M", 1, "", since(n))))
	}
	refused(t, top("^"+message("M", 1, "", since(4))), api.ErrSince)
	refused(t, top("^"+message("M", 1, field("a", 1, "uint8"), since(65534))), api.ErrSince)
	// Messages are no row.
	taken(t, top(message("M", 1, "", since(3))+message("N", 2, "", since(1))))

	f := func(name string, id, n int) string { return field(name, id, "uint8", optional, since(n)) }
	taken(t, at3(f("a", 1, 1)+f("b", 2, 2)+f("c", 3, 2)+f("d", 4, 3)))
	refused(t, at3("^"+f("a", 1, 0)), api.ErrSince)
	refused(t, at3("^"+field("a", 1, "uint8")), api.ErrSince)
	refused(t, at3("^"+f("a", 1, 4)), api.ErrSince)
	refused(t, at3(f("a", 1, 2)+"^"+f("b", 2, 1)), api.ErrSince)
	refused(t, at3(f("a", 1, 1)+f("b", 2, 3)+"^"+f("c", 3, 2)), api.ErrSince)
	// Constants, and fields without bytes, are fields ahead too.
	refused(t, at3(field("a", 1, "Two", since(3))+"^"+f("b", 2, 2)), api.ErrSince)
	refused(t, at3(field("a", 1, "Still", optional, since(3))+"^"+field("b", 2, "Two", since(2))), api.ErrSince)
	// The fields of a group go by themselves.
	taken(t, at3(f("a", 1, 3)+group("g", 2, f("b", 3, 1)+f("c", 4, 2), since(1))))
	refused(t, at3(group("g", 2, "^"+f("b", 3, 1), since(2))), api.ErrSince)
	refused(t, at3(group("g", 2, f("b", 3, 3)+"^"+f("c", 4, 2), since(2))), api.ErrSince)
	taken(t, at3(group("g", 2, f("b", 3, 3), since(2))+group("h", 4, f("b", 5, 2), since(2))))
	// At a part nothing is asked of deprecated.
	taken(t, at3(field("a", 1, "uint8", since(1), `deprecated="0"`)+field("b", 2, "uint8", since(1), `deprecated="65534"`)))
}

// P9.1: the Since of groups and data: of a row, of a group's own.
func TestSinceOfRows(t *testing.T) {
	g := func(name string, id, n int) string { return group(name, id, "", since(n)) }
	d := func(name string, id, n int) string { return data(name, id, "text", since(n)) }
	taken(t, at3(g("g", 1, 1)+g("h", 2, 2)+d("d", 3, 2)+d("e", 4, 3)))
	taken(t, at3(field("a", 5, "uint8", optional, since(3))+g("g", 1, 1)))
	taken(t, at3(field("a", 5, "uint8", optional, since(3))+d("g", 1, 2)+d("h", 2, 2)))
	refused(t, at3("^"+g("g", 1, 0)), api.ErrSince)
	refused(t, at3("^"+d("g", 1, 0)), api.ErrSince)
	refused(t, at3("^"+g("g", 1, 4)), api.ErrSince)
	refused(t, at3("^"+d("g", 1, 4)), api.ErrSince)
	refused(t, at3(g("g", 1, 2)+"^"+g("h", 2, 1)), api.ErrSince)
	refused(t, at3(g("g", 1, 2)+"^"+d("h", 2, 1)), api.ErrSince)
	refused(t, at3(d("g", 1, 2)+"^"+d("h", 2, 1)), api.ErrSince)
	refused(t, at3(g("g", 1, 1)+g("i", 3, 3)+"^"+d("h", 2, 2)), api.ErrSince)
	refused(t, at3(field("a", 5, "uint8", since(1))+g("g", 1, 2)+"^"+d("h", 2, 1)), api.ErrSince)
	// Inside a group: just the group's, whatever the fields have.
	for n := range 5 {
		for _, inner := range []string{g("h", 2, n), d("h", 2, n), field("a", 5, "uint8", optional, since(3)) + "^" + g("h", 2, n), group("i", 7, "", since(2)) + "^" + d("h", 2, n)} {
			if n == 2 {
				taken(t, at3(group("g", 1, strings.Replace(inner, "^", "", 1), since(2))))
				continue
			}
			if !strings.Contains(inner, "^") {
				inner = "^" + inner
			}
			refused(t, at3(group("g", 1, inner, since(2))), api.ErrSince)
		}
	}
	refused(t, at3(group("g", 1, group("h", 2, "^"+d("d", 3, 3), since(2)), since(2))), api.ErrSince)
}

// P9.1: a later field that can't be left out.
func TestNotOptional(t *testing.T) {
	for _, typ := range []string{"uint8", "Side", "Flags", "Dec", "Still", "wideDim"} {
		taken(t, at3(field("a", 1, typ, since(1))))
		taken(t, at3(field("a", 1, typ, since(1), required)))
		taken(t, at3(field("a", 1, typ, since(2), optional)))
		refused(t, at3("^"+field("a", 1, typ, since(2))), api.ErrNotOptional)
		refused(t, at3("^"+field("a", 1, typ, since(2), required)), api.ErrNotOptional)
	}
	taken(t, at3(field("a", 1, "Maybe", since(2))))
	refused(t, at3("^"+field("a", 1, "Maybe", since(2), required)), api.ErrNotOptional)
	taken(t, at3(field("a", 1, "Two", since(2))+field("b", 2, "Side", constant, ref("Side.Sell"), since(3))))
	// It is the group's Since, not the message's.
	taken(t, at3(group("g", 1, field("a", 2, "uint8", since(2)), since(2))))
	refused(t, at3(group("g", 1, "^"+field("a", 2, "uint8", since(3)), since(2))), api.ErrNotOptional)
	// Groups and data need no presence.
	taken(t, at3(group("g", 1, "", since(3))+data("d", 2, "text", since(3))))
}

// tops is a text with a header whose numbers are of these types, and dimensions of each.
func tops(blockLength, template, messages string) string {
	ts := headOf("messageHeader", blockLength, template, "uint16", "uint16") + dimOf("d8", "uint8", "uint8") + dimOf("d16", "uint16", "uint8") + dimOf("d32", "uint32", "uint8") +
		`<type name="Long" primitiveType="char" length="65535"/><type name="Near" primitiveType="char" length="65534"/>` + two
	return withTop(`id="1" version="1"`, ts, messages)
}

// P9.1: what a header and a dimension can tell.
func TestWhatFits(t *testing.T) {
	most := map[string]int{"uint8": 254, "uint16": 65534, "uint32": 65535}
	for prim, most := range most {
		for _, n := range []int{0, 1, 253, 254, 255, 256, 65533, 65534, 65535} {
			m := tops(prim, "uint32", "^"+message("M", 1, "", block(n)))
			i := tops("uint32", prim, "^"+message("M", n, ""))
			g := tops("uint8", "uint8", message("M", 1, "^"+group("g", 1, "", dim("d"+prim[4:]), block(n))))
			if n <= most {
				for _, s := range []string{m, i, g} {
					taken(t, strings.Replace(s, "^", "", 1))
				}
				continue
			}
			refused(t, m, api.ErrHeader)
			refused(t, i, api.ErrHeader)
			refused(t, g, api.ErrDimension)
		}
		// Blocks that aren't written count by their fields.
		for _, n := range []int{252, 253, 254, 255, 65532, 65533, 65534} {
			m := tops(prim, "uint32", "^"+message("M", 1, field("a", 1, "uint8", offset(n))))
			g := tops("uint8", "uint8", message("M", 1, "^"+group("g", 1, field("a", 2, "uint8", offset(n)), dim("d"+prim[4:]))))
			if n+1 <= most {
				taken(t, strings.Replace(m, "^", "", 1))
				taken(t, strings.Replace(g, "^", "", 1))
				continue
			}
			refused(t, m, api.ErrHeader)
			refused(t, g, api.ErrDimension)
		}
	}
	// A group's block is no matter for the header, its id neither, nor a message's for a dimension.
	taken(t, tops("uint8", "uint8", message("M", 1, group("g", 65535, "", dim("d32"), block(65535)))))
	taken(t, tops("uint32", "uint32", message("M", 65535, group("g", 65535, "", dim("d8"), block(254)), block(65535))))
	// The templateId's is asked, not the schemaId's.
	taken(t, withTop(`id="1"`, headOf("messageHeader", "uint16", "uint16", "uint8", "uint8"), message("M", 300, "", block(300))))
}

// P9.1: offsets and lengths at their bounds, and what lies over what.
func TestOffsets(t *testing.T) {
	wide := func(parts string, more ...string) string {
		return tops("uint32", "uint32", message("M", 1, parts, more...))
	}
	bounds := func(s string, err api.Errno) {
		t.Helper()
		if err == api.OK {
			taken(t, wide(s))
			taken(t, wide(group("g", 100, s, dim("d32"))))
			return
		}
		refused(t, wide(s), err)
		refused(t, wide(group("g", 100, s, dim("d32"))), err)
	}
	bounds(field("a", 1, "Long"), api.OK)
	bounds("^"+field("a", 1, "Long", offset(1)), api.ErrLayBig)
	bounds(field("a", 1, "Near", offset(1)), api.OK)
	bounds("^"+field("a", 1, "Near", offset(2)), api.ErrLayBig)
	bounds(field("a", 1, "Near")+field("b", 2, "uint8"), api.OK)
	bounds(field("a", 1, "Long")+"^"+field("b", 2, "uint8"), api.ErrLayBig)
	bounds(field("a", 1, "Near")+"^"+field("b", 2, "uint16"), api.ErrLayBig)
	bounds(field("a", 1, "uint8", offset(65534)), api.OK)
	bounds("^"+field("a", 1, "uint8", offset(65535)), api.ErrLayBig)
	bounds(field("a", 1, "uint32", offset(3))+field("b", 2, "uint8", offset(7)), api.OK)
	bounds(field("a", 1, "uint32", offset(3))+"^"+field("b", 2, "uint8", offset(6)), api.ErrLayOver)
	bounds(field("a", 1, "uint32", offset(3))+"^"+field("b", 2, "uint8", offset(0)), api.ErrLayOver)
	// A constant has no room: what is written at it is no matter.
	bounds(field("a", 1, "uint32")+field("k", 2, "Two", offset(0))+field("b", 3, "uint8"), api.OK)
	bounds(field("k", 2, "Two", offset(65535))+field("b", 3, "uint8"), api.OK)
	bounds(field("a", 1, "uint32")+field("k", 2, "Two", offset(9))+"^"+field("b", 3, "uint8", offset(3)), api.ErrLayOver)
	// Blocks: as long as need be, or longer.
	taken(t, wide(field("a", 1, "uint32"), block(4)))
	refused(t, tops("uint32", "uint32", "^"+message("M", 1, field("a", 1, "uint32"), block(3))), api.ErrLayBlock)
	refused(t, tops("uint32", "uint32", "^"+message("M", 1, field("a", 1, "uint32"), block(0))), api.ErrLayBlock)
	refused(t, wide("^"+group("g", 1, field("a", 2, "uint8")+field("b", 3, "uint32", offset(3)), dim("d32"), block(6))), api.ErrLayBlock)
	taken(t, wide(group("g", 1, field("a", 2, "uint8")+field("b", 3, "uint32", offset(3)), dim("d32"), block(7))))
	taken(t, wide(field("k", 2, "Two"), block(0)))
	taken(t, wide(field("a", 1, "Long"), block(65535)))
	refused(t, tops("uint32", "uint32", "^"+message("M", 1, field("a", 1, "Long"), block(65534))), api.ErrLayBlock)
	// The fields of a group aren't those of what holds it.
	s := taken(t, wide(field("a", 1, "uint32")+group("g", 2, field("b", 3, "uint16")+group("h", 4, field("c", 5, "uint8"), dim("d8")), dim("d8"))+group("i", 6, field("e", 7, "uint64"), dim("d8"))))
	got := ""
	for _, p := range s.Parts {
		got += fmt.Sprint(p.Offset, p.Size, p.Block, " ")
	}
	if got != "0 0 4 0 4 0 0 0 2 0 2 0 0 0 1 0 1 0 0 0 8 0 8 0 " {
		t.Errorf("the groups' blocks: %q", got)
	}
}

// P9.1: of two faults at one part that is told which the chapter names first.
func TestFirstOfTwoAtAPart(t *testing.T) {
	ahead := field("a", 1, "uint8", optional, since(3))
	g := group("g", 2, "", since(2))
	d := data("d", 3, "text", since(2))
	// Each row has the fault of its error, and of all rows behind it.
	fields := []struct {
		attributes string
		err        api.Errno
	}{
		{`name="d" id="3" type="nothing"`, api.ErrIDTwice},
		{`name="d" id="4" type="nothing"`, api.ErrNameTwice},
		{`name="e" id="4" type="nothing"`, api.ErrPartOrder},
	}
	for _, r := range fields {
		refused(t, at3(ahead+g+d+"^<field "+r.attributes+` presence="constant" valueRef="Side.Buy" offset="0"/>`), r.err)
	}
	for _, r := range []struct {
		attributes string
		err        api.Errno
	}{
		{`type="nothing" presence="constant"`, api.ErrTypeNone},
		{`type="text" presence="constant"`, api.ErrTypeKind},
		{`type="text" valueRef="Side.Buy"`, api.ErrTypeKind},
		{`type="Two" presence="required"`, api.ErrTypeValue},
		{`type="uint8" presence="constant"`, api.ErrTypeValue},
		{`type="uint8" sinceVersion="4"`, api.ErrSince},
		{`type="uint8" sinceVersion="2"`, api.ErrSince},
		{`type="uint8" sinceVersion="3" offset="0"`, api.ErrNotOptional},
	} {
		refused(t, at3(ahead+`^<field name="b" id="2" `+r.attributes+"/>"), r.err)
	}
	eight := func(s string) string {
		text := s
		for i := range 8 {
			text = group("g"+strconv.Itoa(i), 10+i, text, since(2))
		}
		return at3(text)
	}
	refused(t, eight(`^<group name="z" id="10" dimensionType="nothing"/>`), api.ErrIDTwice)
	refused(t, eight(field("z", 1, "uint8", since(2))+`^<group name="z" id="9" dimensionType="nothing"/>`), api.ErrNameTwice)
	refused(t, eight(data("y", 1, "text", since(2))+`^<group name="z" id="9" dimensionType="nothing"/>`), api.ErrPartOrder)
	refused(t, eight(`^<group name="z" id="9" dimensionType="nothing"/>`), api.ErrNest)
	refused(t, at3(g+`^<group name="z" id="9" dimensionType="nothing" blockLength="65535"/>`), api.ErrTypeNone)
	refused(t, at3(g+`^<group name="z" id="9" dimensionType="text" blockLength="65535"/>`), api.ErrDimension)
	refused(t, at3(g+`^<group name="z" id="9" sinceVersion="1" blockLength="65535"/>`), api.ErrSince)
	refused(t, at3(g+`^<data name="g" id="2" type="nothing"/>`), api.ErrIDTwice)
	refused(t, at3(g+`^<data name="g" id="9" type="nothing"/>`), api.ErrNameTwice)
	refused(t, at3(g+`^<data name="z" id="9" type="nothing"/>`), api.ErrTypeNone)
	refused(t, at3(g+`^<data name="z" id="9" type="Dec" sinceVersion="4"/>`), api.ErrLengthType)
	refused(t, whole(message("M", 1, "")+"^"+message("M", 1, "", since(9))), api.ErrIDTwice)
	refused(t, whole(message("M", 1, "")+"^"+message("M", 65535, "", since(9))), api.ErrNameTwice)
	refused(t, whole(message("M", 1, "")+"^"+message("N", 65535, "", since(9))), api.ErrSince)
}

// P9.1: the parts come in order, each by itself; then the blocks, each by itself.
func TestFirstOfTwoParts(t *testing.T) {
	// The last of a part's errors ahead of the first of the next one's.
	refused(t, inM("^"+field("a", 1, "uint8", since(1))+field("a", 1, "uint8")), api.ErrNotOptional)
	refused(t, inM("^"+group("g", 1, field("a", 1, "nothing"), since(2))), api.ErrSince)
	refused(t, inM(group("g", 1, "^"+field("a", 2, "nothing"))+field("g", 1, "text")), api.ErrTypeNone)
	// A block that can't be laid, behind all parts' errors.
	over := field("a", 1, "uint32") + field("b", 2, "uint8", offset(0))
	refused(t, whole(message("M", 1, over, block(2))+"^"+message("N", 1, "")), api.ErrIDTwice)
	refused(t, whole(message("M", 65535, "")+message("N", 1, "^"+field("a", 1, "uint8", since(1)))), api.ErrNotOptional)
	// Of one block: the fields in order, then the block, then the header.
	refused(t, whole(message("M", 65535, field("a", 1, "uint32")+"^"+field("b", 2, "uint8", offset(3))+field("c", 3, "uint8", offset(65535)), block(2))), api.ErrLayOver)
	refused(t, whole(message("M", 65535, field("a", 1, "uint32")+"^"+field("b", 2, "uint8", offset(65535))+field("c", 3, "uint8", offset(0)), block(2))), api.ErrLayBig)
	refused(t, whole("^"+message("M", 65535, field("a", 1, "uint32"), block(2))), api.ErrLayBlock)
	refused(t, whole("^"+message("M", 65535, field("a", 1, "uint32")+group("g", 2, field("c", 3, "uint32"), block(3)), block(4))), api.ErrHeader)
	refused(t, whole("^"+message("M", 1, group("g", 2, field("c", 3, "uint32"), block(3)), block(65535))), api.ErrHeader)
	// Groups, in order, behind what holds them.
	refused(t, inM("^"+group("g", 2, group("h", 3, field("c", 4, "uint32"), block(3)), block(65535))), api.ErrDimension)
	refused(t, inM(group("g", 2, "^"+group("h", 3, field("c", 4, "uint32"), block(3)))+group("i", 5, "", block(65535))), api.ErrLayBlock)
	refused(t, whole("^"+message("M", 65535, "")+message("N", 1, field("a", 1, "uint32")+field("b", 2, "uint8", offset(3)))), api.ErrHeader)
	refused(t, whole(message("M", 1, "^"+group("g", 2, "", block(65535)))+message("N", 65535, "")), api.ErrDimension)
}

// P9.4: layout, comments, the order of attributes and the order of types change nothing but the types' places.
func TestOrderOfTypesAndLayout(t *testing.T) {
	parts := message("M", 1, field("a", 1, "Side", since(0), offset(2))+field("k", 2, "AB")+field("c", 3, "Dec", optional, since(1))+group("g", 4, field("x", 5, "Side", constant, ref("Side.Buy")), dim("wideDim"))+data("d", 6, "text", since(1)))
	rows := strings.SplitAfter(strings.ReplaceAll(strings.ReplaceAll(chapter+further, "</composite>", "</composite>\n"), "/><", "/>\n<"), "\n")
	// Whole types again: a piece goes on while a composite is open.
	var pieces []string
	open := ""
	for _, r := range rows {
		open += r
		if strings.Count(open, "<composite") == strings.Count(open, "</composite>") && strings.Count(open, "<enum") == strings.Count(open, "</enum>") && strings.Count(open, "<set") == strings.Count(open, "</set>") {
			pieces = append(pieces, open)
			open = ""
		}
	}
	if open != "" {
		t.Fatal(open)
	}
	want := taken(t, rootTag+"<types>"+chapter+further+"</types>"+parts+rootEnd)
	told := byNames(want)
	r := rand.New(rand.NewSource(9))
	for range 30 {
		r.Shuffle(len(pieces), func(i, j int) { pieces[i], pieces[j] = pieces[j], pieces[i] })
		cut := r.Intn(len(pieces))
		s := rootTag + "<types>" + strings.Join(pieces[:cut], "") + "</types>" + parts + "<types>" + strings.Join(pieces[cut:], "") + "</types>" + rootEnd
		if got := byNames(taken(t, s)); got != told {
			t.Errorf("types in another order: %s\nwant %s", got, told)
		}
	}
	plain := rootTag + allTypes + parts + rootEnd
	loose := strings.NewReplacer("><", ">\n\t<!-- a <comment> -->  <", `="`, " =\n '", `" `, "' ", `"/>`, "'\t/>", `">`, "' >").Replace(plain)
	loose = "<?xml version='1.0'?>\n<!-- ahead -->" + loose + "<!-- behind -->\n"
	if got := taken(t, loose); !alike(got, want) {
		t.Errorf("%s: %v", loose, got)
	}
	turned := strings.NewReplacer(
		`package="p" id="7" version="1"`, `version="1" id="7" package="p"`,
		`name="M" id="1"`, `id="1" name="M"`,
		`name="a" id="1" type="Side"`, `type="Side" name="a" id="1"`,
		`name="g" id="4"`, `id="4" name="g"`,
		`name="d" id="6" type="text"`, `type="text" id="6" name="d"`,
	).Replace(plain)
	if got := taken(t, turned); turned == plain || !alike(got, want) {
		t.Errorf("%s: %v", turned, got)
	}
	described := strings.NewReplacer(`id="1" type="Side"`, `id="1" type="Side" description="x" semanticType="y"`, `version="1"`, `version="1" description="x" semanticVersion="3" xmlns:x="y"`).Replace(plain)
	if got := taken(t, described); described == plain || !alike(got, want) {
		t.Errorf("%s: %v", described, got)
	}
}

// byNames is all that a schema tells, with names in the places of types, which are sorted.
func byNames(s api.Schema) string {
	var ts []string
	for i := 0; i < len(s.Types); {
		end := i + 1
		for end < len(s.Types) && s.Types[end].Depth > 1 {
			end++
		}
		ts = append(ts, fmt.Sprint(s.Types[i:end]))
		i = end
	}
	slices.Sort(ts)
	told := fmt.Sprint(s.Package, s.ID, s.Version, s.Order, s.Types[s.Header].Name, ts)
	for _, p := range s.Parts {
		typ := p.Type
		p.Type = 0
		told += fmt.Sprintf("%v %s\n", p, s.Types[typ].Name)
	}
	return told
}

// P9.4: of a field that is newer all sized fields ahead are no newer, and lie ahead of it.
func holdNewer(t *testing.T, s api.Schema) {
	t.Helper()
	ps := row(s.Parts)
	for i, p := range ps {
		if p.Kind != api.PartField || p.Size == 0 {
			continue
		}
		for _, k := range ps.fellows(i) {
			if q := ps[k]; q.Kind == api.PartField && q.Size > 0 && (q.Since > p.Since || q.Offset+q.Size > p.Offset) {
				t.Errorf("P9.4: %v ahead of %v", q, p)
			}
		}
	}
}

// dice makes texts that are schemas now and then.
type dice struct {
	*rand.Rand
	id   int
	good bool // nothing is done on purpose that is refused for sure
}

func (r *dice) of(words ...string) string { return words[r.Intn(len(words))] }

// at odds of one in n.
func (r *dice) now(n int) bool { return !r.good && r.Intn(n) == 0 }

func (r *dice) name() string {
	if r.now(12) {
		return r.of("a", "b", "c")
	}
	r.id++
	return "n" + strconv.Itoa(r.id)
}

func (r *dice) nextID() int {
	if r.now(25) {
		return r.of1(r.id, r.id, 1, 65535)
	}
	r.id++
	return r.id
}

func (r *dice) of1(ns ...int) int { return ns[r.Intn(len(ns))] }

func (r *dice) field(held, ahead int) (string, int) {
	n := ahead + r.of1(0, 0, 0, 1)
	if n > 3 && !r.now(8) {
		n = 3
	}
	if r.now(20) {
		n = r.Intn(4)
	}
	typ := r.of("uint8", "int32", "Side", "Flags", "Dec", "Still", "Two", "Maybe", "AB", "char")
	if r.now(15) {
		typ = r.of("text", "nothing", "Long", "loose", "messageHeader")
	}
	var more []string
	if typ == "Side" && r.Intn(2) == 0 {
		more = append(more, constant, ref(r.of("Side.Buy", "Side.Buy", "Side.Sell")))
	} else if n > held && typ != "Two" && typ != "AB" && !r.now(8) {
		more = append(more, optional)
	} else if r.now(8) {
		more = append(more, r.of(optional, required, constant))
	}
	if r.now(25) {
		more = append(more, ref(r.of("Side.Buy", "Side.Hold", "Two.Buy")))
	}
	if r.now(4) {
		more = append(more, offset(r.of1(0, 1, 2, 5, 9, 30, 200, 254, 65535)))
	}
	if r.Intn(6) == 0 {
		more = append(more, `deprecated="`+strconv.Itoa(r.Intn(5))+`"`)
	}
	slices.Sort(more)
	for i := len(more) - 1; i > 0; i-- {
		// Sorted, two of one attribute stand side by side.
		if strings.SplitN(more[i], "=", 2)[0] == strings.SplitN(more[i-1], "=", 2)[0] {
			more = slices.Delete(more, i, i+1)
		}
	}
	return field(r.name(), r.nextID(), typ, append(more, since(n))...), n
}

// parts is what stands in a message or group; nest is how many groups hold it.
func (r *dice) parts(held, nest int) string {
	text, ahead := "", held
	for range r.Intn(4) {
		var s string
		s, ahead = r.field(held, ahead)
		text += s
	}
	row := held
	later := func() int {
		if nest == 0 && row < 3 {
			row += r.of1(0, 0, 1)
		}
		if r.now(15) {
			return r.Intn(5)
		}
		return row
	}
	for range r.Intn(3) {
		if nest > 2 && !r.now(3) {
			break
		}
		n := later()
		var more []string
		if r.Intn(3) == 0 {
			more = append(more, dim(r.of("smallDim", "wideDim")))
		} else if r.now(15) {
			more = append(more, dim(r.of("text", "nothing", "uint8")))
		}
		if r.now(10) {
			more = append(more, block(r.of1(0, 1, 8, 255, 65535)))
		}
		text += group(r.name(), r.nextID(), r.parts(n, nest+1), append(more, since(n))...)
	}
	for range r.Intn(2) {
		typ := r.of("text", "wideText")
		if r.now(12) {
			typ = r.of("uint8", "nothing", "loose", "groupSizeEncoding")
		}
		text += data(r.name(), r.nextID(), typ, since(later()))
	}
	if r.now(20) {
		s, _ := r.field(held, ahead)
		text += s
	}
	if r.now(30) {
		text += group(r.name(), r.nextID(), "", since(row))
	}
	return text
}

func (r *dice) text() string {
	ms := ""
	for range 1 + r.Intn(2) {
		n := r.Intn(3)
		var more []string
		if r.now(8) {
			more = append(more, block(r.of1(0, 5, 9, 254, 255, 65535)))
		}
		ms += message(r.name(), r.nextID(), r.parts(n, 0), append(more, since(n))...)
	}
	top := `id="7" version="3"`
	if r.now(20) {
		top = r.of(`id="65535"`, `id="7" version="0"`, `id="7" version="1"`, `id="7" headerType="text"`, `id="7" headerType="nothing"`)
	}
	return withTop(top, chapter+further, ms)
}

// P9.1, P9.4: of many texts Load, and a second Build, say the same; what they take is valid.
func TestLoadAgainstSecond(t *testing.T) {
	t.Parallel()
	met := map[api.Errno]int{}
	for seed := range int64(1300) {
		r := &dice{Rand: rand.New(rand.NewSource(seed)), id: 10}
		r.good = seed%3 == 0
		s := r.text()
		ds := declarations(t, s)
		want, e, at := secondBuild(ds)
		holdLoad(t, s, want, e, at)
		if e == api.OK {
			holdNewer(t, want)
		}
		met[e]++
		if t.Failed() {
			return
		}
	}
	for _, e := range []api.Errno{api.OK, api.ErrTypeNone, api.ErrHeader, api.ErrSince, api.ErrIDTwice, api.ErrNameTwice, api.ErrPartOrder, api.ErrTypeKind, api.ErrTypeValue, api.ErrDimension, api.ErrLengthType, api.ErrNotOptional, api.ErrLayOver, api.ErrLayBlock, api.ErrLayBig} {
		if met[e] < 4 {
			t.Errorf("error %d was met %d times: %v", e, met[e], met)
		}
	}
	if met[api.OK] < 300 {
		t.Errorf("too few schemas: %v", met)
	}
}

// P9.5: what is handed in stays, and the room behind it.
func TestBuildLeavesArguments(t *testing.T) {
	for _, s := range []string{inM(field("a", 1, "Side", constant, ref("Side.Buy")) + field("b", 2, "AB") + group("g", 3, field("c", 4, "Dec"))), inM(field("a", 1, "nothing")), inM(group("g", 3, field("c", 4, "Dec"), block(1)))} {
		ds := declarations(t, s)
		mark := api.Decl{Depth: -5, Name: "behind"}
		roomy := append(slices.Clone(ds), mark, mark, mark)
		schema.Build(roomy[:len(ds)])
		if !slices.Equal(roomy[:len(ds)], ds) || roomy[len(ds)] != mark || roomy[len(ds)+1] != mark || roomy[len(ds)+2] != mark {
			t.Errorf("Build changes what it is handed: %s", s)
		}
	}
}

// spoil changes all that the lists of a schema hold, spare room too.
func spoil(s *api.Schema, by uint64) {
	for _, n := range s.Types[:cap(s.Types)] {
		c := n.Const[:cap(n.Const)]
		for i := range c {
			c[i] ^= by
		}
		v := n.Values[:cap(n.Values)]
		for i := range v {
			v[i] = api.Named{Name: "spoilt", Value: by}
		}
	}
	for _, p := range s.Parts[:cap(s.Parts)] {
		c := p.Const[:cap(p.Const)]
		for i := range c {
			c[i] ^= by
		}
	}
	ts := s.Types[:cap(s.Types)]
	for i := range ts {
		ts[i] = api.TypeNode{Name: "spoilt"}
	}
	ps := s.Parts[:cap(s.Parts)]
	for i := range ps {
		ps[i] = api.Part{Name: "spoilt"}
	}
}

// P9.5: answers are new memory: no two fields' constants, nor a type's, are one list, and no two answers share any.
func TestBuildAnswersNewMemory(t *testing.T) {
	s := inM(field("a", 1, "AB") + field("b", 2, "AB") + field("c", 3, "Side", constant, ref("Side.Buy")) + field("d", 4, "Side", constant, ref("Side.Buy")) + field("e", 5, "uint8"))
	ds := declarations(t, s)
	got, _, _ := schema.Build(ds)
	want, _, _ := secondBuild(ds)
	for _, change := range []func(s *api.Schema){
		func(s *api.Schema) { s.Parts[1].Const[0]++ },
		func(s *api.Schema) { s.Parts[2].Const[1]++ },
		func(s *api.Schema) { s.Parts[3].Const[0]++ },
		func(s *api.Schema) { s.Parts[4].Const[0]++ },
		func(s *api.Schema) { s.Types[atAB].Const[2]++ },
		func(s *api.Schema) { s.Types[atSide].Values[0].Value++ },
	} {
		change(&got)
		change(&want)
		if !alike(got, want) {
			t.Errorf("two lists of one answer share memory: %v, want %v", got.Parts, want.Parts)
		}
	}
	for i, p := range got.Parts {
		for k := len(p.Const); k < cap(p.Const); k++ {
			p.Const[:cap(p.Const)][k] = 77
		}
		if !alike(got, want) {
			t.Errorf("the spare room of part %d is another list's", i)
		}
	}
	// A text's memory isn't kept either.
	if unsafe.StringData(got.Package) == unsafe.StringData(ds[0].Name) || unsafe.StringData(got.Parts[0].Name) == unsafe.StringData(ds[len(ds)-6].Name) {
		t.Errorf("a name is the declaration's own")
	}
	one, _, _ := schema.Load(s)
	fresh, _, _ := secondBuild(ds)
	spoil(&got, 0xff)
	if again, e, _ := schema.Build(ds); e != api.OK || !alike(one, fresh) || !alike(again, fresh) {
		t.Errorf("two answers share memory")
	}
}

// used is how many bytes of memory a call asks for.
func used(f func()) uint64 {
	var before, after runtime.MemStats
	runtime.ReadMemStats(&before)
	f()
	runtime.ReadMemStats(&after)
	return after.TotalAlloc - before.TotalAlloc
}

// P9.5: every call ends, and soon: many parts that name types at the end of many, many values, many dimensions.
func TestBuildTakesLittle(t *testing.T) {
	var ts, ms strings.Builder
	for i := range 3000 {
		ts.WriteString(dimOf("D"+strconv.Itoa(i), "uint16", "uint8"))
	}
	ts.WriteString(`<enum name="E" encodingType="uint16">`)
	for i := range 2000 {
		fmt.Fprintf(&ts, `<validValue name="v%d">%d</validValue>`, i, i)
	}
	ts.WriteString(`</enum><type name="Z" primitiveType="uint8"/>`)
	for i := range 3000 {
		ms.WriteString(group("g"+strconv.Itoa(i), i, "", dim("D"+strconv.Itoa(i))))
	}
	ms.WriteString("</message>" + `<message name="N" id="2">`)
	for i := range 2900 {
		fmt.Fprintf(&ms, `<field name="f%d" id="%d" type="E" presence="constant" valueRef="E.v1999"/>`, i, i)
	}
	for i := range 2900 {
		fmt.Fprintf(&ms, `<field name="z%d" id="%d" type="Z"/>`, i, 10000+i)
	}
	s := withTop(`id="1"`, header+ts.String(), `<message name="M" id="1">`+ms.String()+`</message>`)
	var got api.Schema
	took := used(func() { got, _, _ = schema.Load(s) })
	if len(got.Parts) != 8802 || took > 600<<20 {
		t.Errorf("Load of %d parts takes %d bytes", len(got.Parts), took)
	}
	took = used(func() {
		if e, n := schema.Valid(got); e != api.OK {
			t.Error(e, n)
		}
	})
	if took > 150<<20 {
		t.Errorf("Valid of %d parts takes %d bytes", len(got.Parts), took)
	}
	// A long constant of many fields takes no room where the schema is refused; nor is a wide type asked for each of its fields.
	ms.Reset()
	ts.Reset()
	ts.WriteString(`<type name="K" primitiveType="char" presence="constant" length="65535">x</type><composite name="W">`)
	for i := range 2000 {
		fmt.Fprintf(&ts, `<type name="m%d" primitiveType="int8" presence="constant">1</type>`, i)
	}
	for i := range 12000 {
		fmt.Fprintf(&ms, `<field name="f%d" id="%d" type="K"/>`, i, i)
	}
	for i := range 3000 {
		fmt.Fprintf(&ms, `<field name="w%d" id="%d" type="W"/>`, i, 20000+i)
	}
	s = withTop(`id="1"`, header+ts.String()+`</composite>`, message("M", 1, ms.String()+"^"+field("f0", 65535, "uint8")))
	before, after, _ := strings.Cut(s, "^")
	took = used(func() {
		if _, e, at := schema.Load(before + after); e != api.ErrNameTwice || at != len(before) {
			t.Error(e, at)
		}
	})
	if took > 400<<20 {
		t.Errorf("the refusal takes %d bytes", took)
	}
}

// P9.5: no list of declarations makes Build panic.
func TestBuildOfAnyDeclarations(t *testing.T) {
	t.Parallel()
	r := rand.New(rand.NewSource(5))
	base := declarations(t, inM(field("a", 1, "Side", constant, ref("Side.Buy"))+field("b", 2, "AB")+group("g", 3, field("c", 4, "Dec")+data("x", 9, "text"))+data("d", 5, "text")))
	met := map[api.Errno]int{}
	for range 6000 {
		ds := slices.Clone(base)
		for range 1 + r.Intn(3) {
			d := &ds[r.Intn(len(ds))]
			if r.Intn(2) == 0 {
				d = &ds[len(ds)-1-r.Intn(8)]
			}
			n := r.Intn(8) - 2
			switch r.Intn(12) {
			case 0:
				d.Depth = n
			case 1:
				d.Kind = api.DeclKind(r.Intn(16) - 1)
			case 2:
				d.Name = []string{"", "a", "b", "g", "Side", "1"}[r.Intn(6)]
			case 3:
				d.Type = []string{"", "uint8", "Two", "Dec", "text", "Side", "nothing", "messageHeader"}[r.Intn(8)]
			case 4:
				d.ID = n
			case 5:
				d.Presence, d.HasPresence = api.Presence(n), r.Intn(2) == 0
			case 6:
				d.Offset = n
			case 7:
				d.Block = n
			case 8:
				d.Since = n
			case 9:
				d.Value = []string{"", "Side.Buy", "Side.Sell", "Two.Buy", "."}[r.Intn(5)]
			case 10:
				d.At = r.Int() - r.Int()
			case 11:
				k := r.Intn(len(ds))
				ds = slices.Delete(ds, k, k+1)
			}
		}
		want, e, at := secondBuild(ds)
		got, ge, gat := schema.Build(ds)
		if ge != e || gat != at || !alike(got, want) {
			t.Fatalf("Build(%v): %v, %d, %d; want %v, %d, %d", ds, got, ge, gat, want, e, at)
		}
		met[e]++
	}
	if met[api.OK] < 100 || met[api.ErrDeclMade] < 100 || met[api.ErrTypeValue] < 5 {
		t.Errorf("met: %v", met)
	}
	if got, e, at := schema.Build([]api.Decl{}); e != api.ErrDeclMade || at != 0 || !alike(got, api.Schema{}) {
		t.Errorf("Build of nothing: %v, %d, %d", got, e, at)
	}
}

// P9.5: no text makes Load panic; a text that is cut short, or has a byte changed, has an answer that the layers below and Build say.
func TestLoadOfAnyText(t *testing.T) {
	t.Parallel()
	s := inM(field("a", 1, "Side", constant, ref("Side.Buy")) + group("g", 3, field("c", 4, "Dec"), block(9)) + data("d", 5, "text"))
	for i := range len(s) {
		for _, cut := range []string{s[:i], s[:i] + s[i+1:], s[:i] + "0" + s[i+1:], s[:i] + s[i:i+1] + s[i:]} {
			got, e, _ := schema.Load(cut)
			if e != api.OK && !alike(got, api.Schema{}) {
				t.Errorf("Load(%s) answers %v beside an error", cut, got)
			}
			if e == api.OK {
				if e, n := schema.Valid(got); e != api.OK {
					t.Errorf("Load(%s) answers what Valid refuses: %d, %d", cut, e, n)
				}
			}
		}
	}
}

// P9.1: the types are those that types.Resolve answers.
func TestTypesAreResolves(t *testing.T) {
	s := whole(message("M", 1, ""))
	got, _, _ := schema.Load(s)
	ts, _, _ := types.Resolve(declarations(t, s))
	if !alike(got, api.Schema{Package: "p", ID: 7, Version: 1, Header: atHeader, Types: ts, Parts: []api.Part{mPart(0)}}) {
		t.Errorf("%v", got)
	}
}
