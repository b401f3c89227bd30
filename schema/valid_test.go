package schema_test

import (
	"fmt"
	"math"
	"math/rand"
	"slices"
	"strconv"
	"strings"
	"sync"
	"testing"

	"stencil/api"
	"stencil/schema"
	"stencil/types"
)

// The places of sample's parts.
const (
	atM = iota
	atMa
	atMk
	atMb
	atMz
	atMe
	atMg
	atGx
	atGy
	atGh
	atHx
	atHd
	atGd
	atMi
	atMd
	atN
	atNa
	atO
)

// sample is a schema of the version 3 with a part of every sort, made anew each time.
func sample() api.Schema { return deepCopy(sampleOnce()) }

var sampleOnce = sync.OnceValue(func() api.Schema {
	s, e, at := schema.Load(strings.Replace(whole(
		message("M", 1, field("a", 1, "uint8", since(1))+field("k", 2, "AB", since(1))+field("b", 3, "int32", optional, since(2), offset(4))+field("z", 4, "Still", optional, since(2))+field("e", 5, "Side", constant, ref("Side.Sell"), since(3))+
			group("g", 6, field("x", 7, "Dec", since(2))+field("y", 8, "Maybe", since(3))+
				group("h", 9, field("x", 10, "Flags", since(2))+data("d", 11, "text", since(2)), since(2), dim("smallDim"), block(20))+data("d", 12, "wideText", since(2)), since(2), dim("wideDim"))+
			group("i", 13, "", since(2))+data("d", 14, "text", since(3), `deprecated="3"`), since(1), block(12))+
			message("N", 2, field("a", 1, "uint8"))+message("O", 3, "", since(3))), `version="1"`, `version="3"`, 1))
	if e != api.OK || len(s.Parts) != atO+1 {
		panic(fmt.Sprint(e, at, len(s.Parts)))
	}
	return s
})

// holdValid holds Valid, and the second one too, to an answer.
func holdValid(t *testing.T, what string, s api.Schema, err api.Errno, n int) {
	t.Helper()
	if e, got := schema.Valid(s); e != err || got != n {
		t.Errorf("%s: Valid: %d, %d; want %d, %d", what, e, got, err, n)
	}
	if e, got := secondValid(s); e != err || got != n {
		t.Errorf("%s: the test's own Valid: %d, %d; want %d, %d", what, e, got, err, n)
	}
}

// change is one done to a schema.
type change = func(s *api.Schema)

// part changes the part at a place.
func part(place int, do func(p *api.Part)) change {
	return func(s *api.Schema) { do(&s.Parts[place]) }
}

// all does changes one behind the other.
func all(changes ...change) change {
	return func(s *api.Schema) {
		for _, c := range changes {
			c(s)
		}
	}
}

// changed holds what Valid says of the sample with a change.
func changed(t *testing.T, what string, do change, err api.Errno, n int) {
	t.Helper()
	s := sample()
	do(&s)
	holdValid(t, what, s, err, n)
}

// P9.2: the sample as it is.
func TestValidTakes(t *testing.T) {
	holdValid(t, "the sample", sample(), api.OK, 0)
	changed(t, "no parts", func(s *api.Schema) { s.Parts = nil }, api.OK, 0)
	changed(t, "empty lists", func(s *api.Schema) {
		for i := range s.Parts {
			if s.Parts[i].Const == nil {
				s.Parts[i].Const = []uint64{}
			}
		}
	}, api.OK, 0)
	changed(t, "no message's parts", func(s *api.Schema) { s.Parts = s.Parts[atO:] }, api.OK, 0)
}

// P9.2: the schema's own package, numbers and order of bytes.
func TestValidSchema(t *testing.T) {
	long := strings.Repeat("a", 64)
	wide := func(s *api.Schema) {
		// A header that tells the greatest numbers.
		for i := atHeader + 1; i < atHeader+5; i++ {
			s.Types[i].Prim, s.Types[i].Null, s.Types[i].Max, s.Types[i].Size, s.Types[i].Offset = api.Uint32, math.MaxUint32, math.MaxUint32-1, 4, 4*(i-atHeader-1)
		}
		s.Types[atHeader].Size = 16
	}
	for name, ok := range map[string]bool{
		"p": true, "p.q": true, "a.b.c.d": true, "_": true, "a1._2": true, long: true, long + "." + long + "." + long + "." + long[:60]: true,
		"": false, ".": false, "p.": false, ".p": false, "p..q": false, "p q": false, "1": false, "p.1": false, " p": false, "p ": false, "p-q": false, "\xff": false, "é": false,
		long + "a": false, long + "." + long + "." + long + "." + long[:61]: false, strings.Repeat("a.", 127) + "a": true, strings.Repeat("a.", 127) + "aa": false,
	} {
		err, n := api.OK, 0
		if !ok {
			err, n = api.ErrSchemaMade, -1
		}
		changed(t, fmt.Sprintf("package %q", name), func(s *api.Schema) { s.Package = name }, err, n)
	}
	for _, r := range []struct {
		n   int
		err api.Errno
	}{{0, 0}, {65534, 0}, {65535, 0}, {65536, api.ErrSchemaMade}, {-1, api.ErrSchemaMade}, {math.MaxInt, api.ErrSchemaMade}, {math.MinInt, api.ErrSchemaMade}} {
		at := 0
		if r.err != api.OK {
			at = -1
		}
		changed(t, fmt.Sprint("id ", r.n), all(wide, func(s *api.Schema) { s.ID = r.n }), r.err, at)
	}
	for _, n := range []int{3, 4, 65534} {
		changed(t, fmt.Sprint("version ", n), all(wide, func(s *api.Schema) { s.Version = n }), api.OK, 0)
	}
	for _, n := range []int{65535, -1, math.MaxInt, math.MinInt} {
		changed(t, fmt.Sprint("version ", n), all(wide, func(s *api.Schema) { s.Version = n }), api.ErrSchemaMade, -1)
	}
	changed(t, "big", func(s *api.Schema) { s.Order = api.Big }, api.OK, 0)
	for _, order := range []api.Endian{2, -1, math.MaxInt, math.MinInt} {
		changed(t, "an order", func(s *api.Schema) { s.Order = order }, api.ErrSchemaMade, -1)
	}
}

// P9.2: the types' error, the header's, the values' Since, each with -1.
func TestValidTypesAndHeader(t *testing.T) {
	changed(t, "no types", func(s *api.Schema) { s.Types = nil }, api.ErrTypeNone, -1)
	changed(t, "too few", func(s *api.Schema) { s.Types = s.Types[:10] }, api.ErrTypeNone, -1)
	changed(t, "a basic type", func(s *api.Schema) { s.Types[3].Max++ }, api.ErrTypeNone, -1)
	changed(t, "a kind", func(s *api.Schema) { s.Types[atSide].Kind = 4 }, api.ErrTypeKind, -1)
	changed(t, "a name", func(s *api.Schema) { s.Types[atSide].Name = "uint8" }, api.ErrTypeName, -1)
	changed(t, "a name twice", func(s *api.Schema) { s.Types[atSide].Name = "Two" }, api.ErrTypeTwice, -1)
	changed(t, "a size", func(s *api.Schema) { s.Types[atDec].Size++ }, api.ErrTypeOffset, -1)
	for _, place := range []int{0, 5, atHeader - 1, atHeader + 1, atDimension, atSide, atText, -1, 100000, math.MaxInt, math.MinInt} {
		changed(t, fmt.Sprint("a header at ", place), func(s *api.Schema) { s.Header = place }, api.ErrHeader, -1)
	}
	inner := func(s *api.Schema) {
		// A composite that is a header but for its Depth.
		ns := slices.Clone(s.Types[atHeader : atHeader+5])
		for i := range ns {
			ns[i].Depth++
		}
		s.Types = append(s.Types, api.TypeNode{Depth: 1, Kind: api.TypeComposite, Name: "Outer", Size: 8})
		s.Types = append(s.Types, ns...)
	}
	changed(t, "an inner composite", inner, api.OK, 0)
	changed(t, "an inner header", all(inner, func(s *api.Schema) { s.Header = len(s.Types) - 5 }), api.ErrHeader, -1)
	changed(t, "another header", all(func(s *api.Schema) {
		s.Types = append(s.Types, slices.Clone(s.Types[atHeader:atHeader+5])...)
		s.Header = len(s.Types) - 5
		s.Types[s.Header].Name = "Another"
	}), api.OK, 0)
	changed(t, "an id beyond", func(s *api.Schema) { s.ID = 65535 }, api.ErrHeader, -1)
	changed(t, "the greatest id", func(s *api.Schema) { s.ID = 65534 }, api.OK, 0)
	small := func(place int) change {
		return func(s *api.Schema) {
			n := &s.Types[place]
			n.Prim, n.Size, n.Null, n.Max = api.Uint8, 1, 255, 254
			end := 0
			for i := atHeader + 1; i < atHeader+5; i++ {
				end = s.Types[i].Offset + s.Types[i].Size
			}
			s.Types[atHeader].Size = end
		}
	}
	for n, err := range map[int]api.Errno{3: 0, 254: 0, 255: api.ErrHeader, 65534: api.ErrHeader} {
		at := 0
		if err != api.OK {
			at = -1
		}
		changed(t, fmt.Sprint("a small version ", n), all(small(atHeader+4), func(s *api.Schema) { s.Version = n }), err, at)
		changed(t, fmt.Sprint("a small id ", n), all(small(atHeader+3), func(s *api.Schema) { s.ID = n }), err, at)
	}
	changed(t, "a value's Since", func(s *api.Schema) { s.Types[atSide].Values[1].Since = 3 }, api.OK, 0)
	changed(t, "a value's Since above", func(s *api.Schema) { s.Types[atSide].Values[0].Since = 4 }, api.ErrSince, -1)
	changed(t, "a bit's Since above", func(s *api.Schema) { s.Types[atFlags].Values[1].Since = 65534 }, api.ErrSince, -1)
	changed(t, "a member's value", func(s *api.Schema) {
		n := s.Types[atSide]
		n.Depth, n.Values = 2, []api.Named{{Name: "v", Value: 1, Since: 4}}
		s.Types = append(s.Types, api.TypeNode{Depth: 1, Kind: api.TypeComposite, Name: "Outer", Size: 1}, n)
	}, api.ErrSince, -1)
}

// P9.2: a part's Kind, Depth, and the fields that it doesn't have.
func TestValidShape(t *testing.T) {
	made := func(what string, place int, do func(p *api.Part)) {
		t.Helper()
		changed(t, what, part(place, do), api.ErrSchemaMade, place)
	}
	for _, kind := range []api.PartKind{4, -1, math.MaxInt, math.MinInt} {
		for _, place := range []int{atM, atMa, atMg, atGd, atO} {
			made("a Kind", place, func(p *api.Part) { p.Kind = kind })
		}
	}
	for _, depth := range []int{0, -1, 2, 3, math.MaxInt, math.MinInt} {
		made("a message's Depth", atN, func(p *api.Part) { p.Depth = depth })
		made("the first part's Depth", atM, func(p *api.Part) { p.Depth = depth })
	}
	for _, depth := range []int{0, 1, -1, math.MinInt, math.MaxInt} {
		for _, place := range []int{atMa, atMk, atGx, atGh, atHd, atMd} {
			made("a Depth", place, func(p *api.Part) { p.Depth = depth })
		}
	}
	// Right behind a message or group one deeper, else no deeper.
	made("behind a message", atMa, func(p *api.Part) { p.Depth = 3 })
	made("behind a field", atMk, func(p *api.Part) { p.Depth = 3 })
	made("behind a group", atGx, func(p *api.Part) { p.Depth = 4 })
	made("behind data", atGd, func(p *api.Part) { p.Depth = 5 })
	changed(t, "data behind data", part(atGd, func(p *api.Part) { p.Depth, p.Name = 4, "e" }), api.OK, 0)
	changed(t, "data behind a group", part(atMd, func(p *api.Part) { p.Depth, p.Since = 3, 2 }), api.OK, 0)
	for _, place := range []int{atMa, atMg, atMd} {
		changed(t, "no message ahead", func(s *api.Schema) { s.Parts = s.Parts[place:] }, api.ErrSchemaMade, 0)
		changed(t, "no message ahead, Depth 1", func(s *api.Schema) { s.Parts = s.Parts[place:]; s.Parts[0].Depth = 1 }, api.ErrSchemaMade, 0)
	}
	strange := map[string]func(p *api.Part){
		"Type":     func(p *api.Part) { p.Type = 1 },
		"Presence": func(p *api.Part) { p.Presence = api.Optional },
		"Offset":   func(p *api.Part) { p.Offset = 1 },
		"Size":     func(p *api.Part) { p.Size = -1 },
		"Block":    func(p *api.Part) { p.Block = 3 },
		"Const":    func(p *api.Part) { p.Const = []uint64{0} },
	}
	for place, names := range map[int][]string{
		atM: {"Type", "Presence", "Offset", "Size", "Const"}, atO: {"Type", "Presence", "Offset", "Size", "Const"},
		atMa: {"Block"}, atMk: {"Block"}, atMb: {"Block"},
		atMg: {"Presence", "Offset", "Size", "Const"}, atGh: {"Presence", "Offset", "Size", "Const"},
		atMd: {"Presence", "Offset", "Size", "Block", "Const"}, atHd: {"Presence", "Offset", "Size", "Block", "Const"},
	} {
		for _, name := range names {
			made(name, place, strange[name])
		}
	}
	for _, place := range []int{atM, atMa, atMg, atMd} {
		for _, name := range []string{"", "1", "a b", "a.b", strings.Repeat("a", 65), "\xff", "é", "a\x00"} {
			made("a name", place, func(p *api.Part) { p.Name = name })
		}
		for _, id := range []int{-1, 65536, math.MaxInt, math.MinInt} {
			made("an id", place, func(p *api.Part) { p.ID = id })
		}
		for _, n := range []int{-2, 65535, math.MaxInt, math.MinInt} {
			made("deprecated", place, func(p *api.Part) { p.Deprecated = n })
		}
		for _, n := range []int{-1, math.MinInt} {
			made("since", place, func(p *api.Part) { p.Since = n })
		}
		for _, n := range []int{-1, 0, 65534} {
			changed(t, "deprecated", part(place, func(p *api.Part) { p.Deprecated = n }), api.OK, 0)
		}
		changed(t, "a long name", part(place, func(p *api.Part) { p.Name = strings.Repeat("a", 64) }), api.OK, 0)
		changed(t, "the id 0", part(place, func(p *api.Part) { p.ID = 0 }), api.OK, 0)
		if place != atM {
			changed(t, "the id 65535", part(place, func(p *api.Part) { p.ID = 65535 }), api.OK, 0)
			for _, typ := range []int{-1, atHeader + 1, atText + 2, len(sample().Types), math.MaxInt, math.MinInt} {
				made("a type", place, func(p *api.Part) { p.Type = typ })
			}
		}
	}
}

// P9.2: ids, names, order, nest.
func TestValidMet(t *testing.T) {
	id := func(n int) func(p *api.Part) { return func(p *api.Part) { p.ID = n } }
	name := func(s string) func(p *api.Part) { return func(p *api.Part) { p.Name = s } }
	changed(t, "a message's id", part(atO, id(1)), api.ErrIDTwice, atO)
	changed(t, "a part's id", part(atMk, id(1)), api.ErrIDTwice, atMk)
	changed(t, "an id in a group", part(atHd, id(6)), api.ErrIDTwice, atHd)
	changed(t, "an id behind a group", part(atMd, id(10)), api.ErrIDTwice, atMd)
	changed(t, "the message's id", part(atMd, id(15)), api.OK, 0)
	changed(t, "another message's id", part(atNa, id(2)), api.OK, 0)
	changed(t, "a message's name", part(atO, name("M")), api.ErrNameTwice, atO)
	changed(t, "a part's name", part(atMk, name("a")), api.ErrNameTwice, atMk)
	changed(t, "a name behind a group", part(atMd, name("a")), api.ErrNameTwice, atMd)
	changed(t, "a name in a group", part(atGd, name("h")), api.ErrNameTwice, atGd)
	changed(t, "a group's own name", part(atGx, name("g")), api.OK, 0)
	changed(t, "a field behind data", func(s *api.Schema) {
		s.Parts = slices.Insert(s.Parts, atGd+1, fPart(3, "w", 50, 5, 4, 1))
	}, api.ErrPartOrder, atGd+1)
	changed(t, "a field behind a group", func(s *api.Schema) {
		s.Parts = slices.Insert(s.Parts, atMd, fPart(2, "w", 50, 5, 8, 1))
	}, api.ErrPartOrder, atMd)
	changed(t, "a group behind data", func(s *api.Schema) {
		s.Parts = slices.Insert(s.Parts, atN, api.Part{Depth: 2, Kind: api.PartGroup, Name: "w", ID: 50, Type: atDimension, Deprecated: -1})
	}, api.ErrPartOrder, atN)
	changed(t, "eight groups", func(s *api.Schema) { s.Parts = nest(8) }, api.OK, 0)
	changed(t, "nine groups", func(s *api.Schema) { s.Parts = nest(9) }, api.ErrNest, 9)
	changed(t, "forty groups", func(s *api.Schema) { s.Parts = nest(40) }, api.ErrNest, 9)
}

// nest is a message with groups in one another, and data in the innermost.
func nest(n int) []api.Part {
	ps := []api.Part{{Depth: 1, Name: "M", ID: 1, Deprecated: -1}}
	for i := range n {
		ps = append(ps, api.Part{Depth: i + 2, Kind: api.PartGroup, Name: "g", ID: i, Type: atDimension, Deprecated: -1})
	}
	return append(ps, api.Part{Depth: n + 2, Kind: api.PartData, Name: "d", ID: n, Type: atText, Deprecated: -1})
}

// P9.2: types and values.
func TestValidValues(t *testing.T) {
	typ := func(n int) func(p *api.Part) { return func(p *api.Part) { p.Type = n } }
	presence := func(n api.Presence, words ...uint64) func(p *api.Part) {
		return func(p *api.Part) { p.Presence, p.Const = n, words }
	}
	for _, n := range []int{atText, atWideText, atLoose} {
		changed(t, "variable data", part(atMa, typ(n)), api.ErrTypeKind, atMa)
	}
	for _, n := range []api.Presence{3, -1, math.MaxInt, math.MinInt} {
		changed(t, "a presence", part(atMa, presence(n)), api.ErrTypeValue, atMa)
		changed(t, "a presence of a constant", part(atMk, presence(n, 'A', 'B', 0)), api.ErrTypeValue, atMk)
	}
	changed(t, "optional", part(atMa, presence(api.Optional)), api.OK, 0)
	changed(t, "a word of no constant", part(atMa, presence(api.Required, 0)), api.ErrTypeValue, atMa)
	changed(t, "a word of an optional one", part(atMb, presence(api.Optional, 1)), api.ErrTypeValue, atMb)
	for _, n := range []api.Presence{api.Required, api.Optional} {
		changed(t, "a constant type", part(atMk, presence(n)), api.ErrTypeValue, atMk)
		changed(t, "a constant type with its words", part(atMk, presence(n, 'A', 'B', 0)), api.ErrTypeValue, atMk)
	}
	for _, words := range [][]uint64{nil, {}, {'A'}, {'A', 'B'}, {'A', 'B', 1}, {'A', 'B', 0, 0}, {'B', 'A', 0}} {
		changed(t, "other words", part(atMk, presence(api.Constant, words...)), api.ErrTypeValue, atMk)
	}
	for _, words := range [][]uint64{nil, {}, {0}, {3}, {1, 2}, {2, 2}, {1 << 32}} {
		changed(t, "no value of the enum", part(atMe, presence(api.Constant, words...)), api.ErrTypeValue, atMe)
	}
	changed(t, "the other value", part(atMe, presence(api.Constant, 1)), api.OK, 0)
	for _, n := range []int{5, atFlags, atDec, atStill, atMaybe, atLong, 0} {
		changed(t, "a constant of no enum", part(atMe, func(p *api.Part) { p.Type, p.Const = n, []uint64{1} }), api.ErrTypeValue, atMe)
		changed(t, "a constant of no enum, without words", part(atMe, func(p *api.Part) { p.Type, p.Const = n, nil }), api.ErrTypeValue, atMe)
	}
	changed(t, "a bit of a set", part(atMe, func(p *api.Part) { p.Type, p.Const = atFlags, []uint64{0} }), api.ErrTypeValue, atMe)
	changed(t, "a value that is newer", all(part(atMe, func(p *api.Part) { p.Since = 2 }), func(s *api.Schema) { s.Types[atSide].Values[1].Since = 3 }), api.ErrTypeValue, atMe)
	changed(t, "a value that is as new", all(part(atMe, func(p *api.Part) { p.Since = 2 }), func(s *api.Schema) { s.Types[atSide].Values[1].Since = 2 }), api.OK, 0)
	changed(t, "an empty constant of nothing", all(func(s *api.Schema) { s.Types[atSide].Values = nil }, part(atMe, presence(api.Constant))), api.ErrTypeValue, atMe)
	for _, n := range []int{5, atText, atHeader, atSide, atLoose, atLong} {
		changed(t, "no dimension", part(atMg, typ(n)), api.ErrDimension, atMg)
	}
	for _, n := range []int{5, atDimension, atHeader, atSide, atLoose, atLong} {
		changed(t, "no data", part(atMd, typ(n)), api.ErrLengthType, atMd)
	}
	changed(t, "another dimension", part(atMg, typ(atDimension)), api.OK, 0)
	changed(t, "another data", part(atMd, typ(atWideText)), api.OK, 0)
}

// P9.2: the Since of parts, and later fields.
func TestValidSince(t *testing.T) {
	set := func(n int) func(p *api.Part) { return func(p *api.Part) { p.Since = n } }
	for _, n := range []int{4, 65534, 65535, math.MaxInt} {
		for _, place := range []int{atM, atMa, atMe, atGx, atMi, atMd, atO} {
			changed(t, "above the version", part(place, set(n)), api.ErrSince, place)
		}
	}
	changed(t, "above the version by far, and a version as high", all(part(atO, set(65534)), func(s *api.Schema) { s.Version = 65534 }), api.OK, 0)
	changed(t, "below the message", part(atMa, set(0)), api.ErrSince, atMa)
	changed(t, "below the group", part(atGx, set(1)), api.ErrSince, atGx)
	changed(t, "below the field ahead", part(atMe, all2(set(1), func(p *api.Part) { p.Const = []uint64{1} })), api.ErrSince, atMe)
	changed(t, "below a constant ahead", all(part(atMk, set(3))), api.ErrSince, atMb)
	changed(t, "below the one ahead in the row", part(atMi, set(1)), api.ErrSince, atMi)
	changed(t, "data below the group ahead", part(atMd, set(1)), api.ErrSince, atMd)
	changed(t, "below the message, in the row", part(atMg, set(0)), api.ErrSince, atMg)
	changed(t, "other than the group's", part(atGh, set(3)), api.ErrSince, atGh)
	changed(t, "data other than the group's", part(atGd, set(3)), api.ErrSince, atGd)
	changed(t, "deeper data other than the group's", part(atHd, set(3)), api.ErrSince, atHd)
	changed(t, "a row that rises", part(atMi, set(3)), api.OK, 0)
	changed(t, "messages that fall", part(atN, func(p *api.Part) { p.Since = 0 }), api.OK, 0)
	for _, place := range []int{atMb, atMz, atGy} {
		changed(t, "a later field that is required", part(place, func(p *api.Part) { p.Presence = api.Required }), api.ErrNotOptional, place)
	}
	changed(t, "no later than the message", all(part(atMb, func(p *api.Part) { p.Presence, p.Since = api.Required, 1 })), api.OK, 0)
}

func all2(fs ...func(p *api.Part)) func(p *api.Part) {
	return func(p *api.Part) {
		for _, f := range fs {
			f(p)
		}
	}
}

// P9.2: sizes, offsets, and the blocks.
func TestValidLaid(t *testing.T) {
	size := func(n int) func(p *api.Part) { return func(p *api.Part) { p.Size = n } }
	lies := func(n int) func(p *api.Part) { return func(p *api.Part) { p.Offset = n } }
	for place, right := range map[int]int{atMa: 1, atMk: 0, atMb: 4, atMz: 0, atMe: 0, atGx: 4, atHx: 1} {
		for _, n := range []int{0, 1, 2, 4, -1, 65535, math.MaxInt, math.MinInt} {
			if n != right {
				changed(t, "a size", part(place, size(n)), api.ErrLayOver, place)
			}
		}
	}
	for _, place := range []int{atMk, atMz, atMe} {
		for _, n := range []int{1, -1, 4, math.MaxInt, math.MinInt} {
			changed(t, "an offset of what takes no bytes", part(place, lies(n)), api.ErrLayOver, place)
		}
	}
	for _, n := range []int{-1, math.MinInt} {
		for _, place := range []int{atMa, atMb, atGx, atHx} {
			changed(t, "an offset below 0", part(place, lies(n)), api.ErrLayOver, place)
		}
	}
	changed(t, "over the field ahead", part(atMb, lies(0)), api.ErrLayOver, atMb)
	changed(t, "right behind the field ahead", part(atMb, lies(1)), api.OK, 0)
	changed(t, "behind a field that lies elsewhere", part(atMa, lies(3)), api.OK, 0)
	changed(t, "a field that reaches into the next", part(atMa, lies(4)), api.ErrLayOver, atMb)
	changed(t, "in the group", part(atGy, lies(3)), api.ErrLayOver, atGy)
	long := all(part(atM, func(p *api.Part) { p.Block = 65534 }), part(atMb, lies(65530)))
	changed(t, "at the end", long, api.OK, 0)
	for _, n := range []int{65532, 65533, 65535, 65536, math.MaxInt - 4, math.MaxInt} {
		changed(t, "beyond the end", part(atMb, lies(n)), api.ErrLayBig, atMb)
	}
	changed(t, "just not beyond", part(atMb, lies(65531)), api.ErrLayBlock, atM)
	for _, n := range []int{7, 0, -1, 65536, math.MaxInt, math.MinInt} {
		changed(t, "a block", part(atM, func(p *api.Part) { p.Block = n }), api.ErrLayBlock, atM)
	}
	for _, n := range []int{8, 9, 65534} {
		changed(t, "a block", part(atM, func(p *api.Part) { p.Block = n }), api.OK, 0)
	}
	for _, n := range []int{4, 0, -1, 65536, math.MaxInt, math.MinInt} {
		changed(t, "a group's block", part(atMg, func(p *api.Part) { p.Block = n }), api.ErrLayBlock, atMg)
	}
	for _, n := range []int{5, 6, 65535} {
		changed(t, "a group's block", part(atMg, func(p *api.Part) { p.Block = n }), api.OK, 0)
	}
	for _, place := range []int{atMi, atO} {
		changed(t, "a block without fields", part(place, func(p *api.Part) { p.Block = -1 }), api.ErrLayBlock, place)
		changed(t, "a block without fields", part(place, func(p *api.Part) { p.Block = 65534 }), api.OK, 0)
	}
	changed(t, "a block beyond the header", part(atM, func(p *api.Part) { p.Block = 65535 }), api.ErrHeader, atM)
	changed(t, "an id beyond the header", part(atN, func(p *api.Part) { p.ID = 65535 }), api.ErrHeader, atN)
	changed(t, "an id that the header tells", part(atN, func(p *api.Part) { p.ID = 65534 }), api.OK, 0)
	changed(t, "a block beyond the dimension", part(atMi, func(p *api.Part) { p.Block = 65535 }), api.ErrDimension, atMi)
	changed(t, "a block beyond the small dimension", part(atGh, func(p *api.Part) { p.Block = 255 }), api.ErrDimension, atGh)
	changed(t, "a block that the small dimension tells", part(atGh, func(p *api.Part) { p.Block = 254 }), api.OK, 0)
}

// P9.2: of two faults that is told which stands first in the list.
func TestValidFirstOfTwo(t *testing.T) {
	since9 := func(s *api.Schema) { s.Types[atSide].Values[0].Since = 9 }
	rows := []struct {
		err api.Errno
		do  change
	}{
		{api.ErrSchemaMade, func(s *api.Schema) { s.Order = 2 }},
		{api.ErrTypeKind, func(s *api.Schema) { s.Types[atSide].Kind = 4 }},
		{api.ErrHeader, func(s *api.Schema) { s.Header = 1 }},
		{api.ErrSince, since9},
	}
	for i, r := range rows {
		for _, q := range rows[i+1:] {
			changed(t, "two of the schema's", all(r.do, q.do), r.err, -1)
		}
		changed(t, "one of the schema's, and a part's", all(r.do, part(atM, func(p *api.Part) { p.Kind = 9 })), r.err, -1)
	}
	// Of one field: each fault with every one behind it.
	faults := []struct {
		err api.Errno
		do  func(p *api.Part)
	}{
		{api.ErrSchemaMade, func(p *api.Part) { p.Deprecated = -2 }},
		{api.ErrIDTwice, func(p *api.Part) { p.ID = 1 }},
		{api.ErrNameTwice, func(p *api.Part) { p.Name = "a" }},
		{api.ErrTypeKind, func(p *api.Part) { p.Type = atText }},
		{api.ErrTypeValue, func(p *api.Part) { p.Const = []uint64{1} }},
		{api.ErrSince, func(p *api.Part) { p.Since = 9 }},
		{api.ErrNotOptional, func(p *api.Part) { p.Presence = api.Required }},
		{api.ErrLayOver, func(p *api.Part) { p.Size = 9 }},
		{api.ErrLayBig, func(p *api.Part) { p.Offset = 70000 }},
	}
	for i, f := range faults {
		for _, g := range faults[i+1:] {
			changed(t, "two of a field's", part(atMb, all2(g.do, f.do)), f.err, atMb)
		}
		changed(t, "a field's, and the next one's", all(part(atMb, f.do), part(atMz, func(p *api.Part) { p.Kind = 9 })), f.err, atMb)
		changed(t, "a field's, and its message's block", all(part(atMb, f.do), part(atM, func(p *api.Part) { p.Block = -1 })), f.err, atMb)
	}
	late := fPart(2, "w", 50, atText, 0, 9)
	late.Since, late.Const = 9, []uint64{1}
	changed(t, "out of order", func(s *api.Schema) { s.Parts = slices.Insert(s.Parts, atMd, late) }, api.ErrPartOrder, atMd)
	late.Name = "a"
	changed(t, "a name, out of order", func(s *api.Schema) { s.Parts = slices.Insert(s.Parts, atMd, late) }, api.ErrNameTwice, atMd)
	// A group's.
	for _, r := range []struct {
		do  func(p *api.Part)
		err api.Errno
	}{
		{func(p *api.Part) { p.Kind, p.ID, p.Offset = api.PartGroup, 1, 1 }, api.ErrSchemaMade},
		{func(p *api.Part) { p.ID, p.Name = 1, "a" }, api.ErrIDTwice},
		{func(p *api.Part) { p.Type, p.Name = 5, "a" }, api.ErrNameTwice},
		{func(p *api.Part) { p.Type, p.Since = 5, 9 }, api.ErrDimension},
		{func(p *api.Part) { p.Since, p.Block = 9, -1 }, api.ErrSince},
	} {
		changed(t, "two of a group's", part(atMg, r.do), r.err, atMg)
	}
	nine := func(last func(p *api.Part)) change {
		return func(s *api.Schema) { s.Parts = nest(9); last(&s.Parts[9]) }
	}
	changed(t, "a nest, and its type", nine(func(p *api.Part) { p.Type = 5 }), api.ErrNest, 9)
	changed(t, "a nest, and its id", nine(func(p *api.Part) { p.ID = 0 }), api.ErrIDTwice, 9)
	changed(t, "a nest, and its order", func(s *api.Schema) {
		s.Parts = slices.Insert(nest(9), 9, api.Part{Depth: 10, Kind: api.PartData, Name: "e", ID: 99, Type: atText, Deprecated: -1})
	}, api.ErrPartOrder, 10)
	// Data's.
	changed(t, "data's type and Since", part(atMd, func(p *api.Part) { p.Type, p.Since = 5, 9 }), api.ErrLengthType, atMd)
	changed(t, "data's name and type", part(atMd, func(p *api.Part) { p.Type, p.Name = 5, "a" }), api.ErrNameTwice, atMd)
	// Blocks: each message and group by itself, in order.
	changed(t, "a block and an id", part(atM, func(p *api.Part) { p.Block, p.ID = 7, 65535 }), api.ErrLayBlock, atM)
	changed(t, "a group's block and dimension", part(atGh, func(p *api.Part) { p.Block = 65536 }), api.ErrLayBlock, atGh)
	changed(t, "an id, and a group's block", all(part(atM, func(p *api.Part) { p.ID = 65535 }), part(atMg, func(p *api.Part) { p.Block = 0 })), api.ErrHeader, atM)
	changed(t, "a dimension, and the next block", all(part(atGh, func(p *api.Part) { p.Block = 255 }), part(atMi, func(p *api.Part) { p.Block = -1 })), api.ErrDimension, atGh)
	changed(t, "a group's block, and the next message's", all(part(atMi, func(p *api.Part) { p.Block = -1 }), part(atN, func(p *api.Part) { p.Block = -1 })), api.ErrLayBlock, atMi)
}

// scramble changes something of a schema, often so that it is none.
func scramble(r *rand.Rand, s *api.Schema) {
	numbers := []int{-2, -1, 0, 1, 2, 3, 4, 5, 7, 8, 11, 16, 19, 22, 23, 24, 27, 33, 254, 255, 256, 65534, 65535, 65536, math.MaxInt, math.MinInt}
	n := numbers[r.Intn(len(numbers))]
	if r.Intn(12) == 0 || len(s.Parts) == 0 {
		switch r.Intn(7) {
		case 0:
			s.Package = []string{"", "p.q", "p..q", "1"}[r.Intn(4)]
		case 1:
			s.ID = n
		case 2:
			s.Version = n
		case 3:
			s.Order = api.Endian(n)
		case 4:
			s.Header = n
		case 5:
			s.Types[atSide].Values[r.Intn(2)].Since = n
		case 6:
			s.Types[r.Intn(len(s.Types))].Size = n
		}
		return
	}
	i := r.Intn(len(s.Parts))
	p := &s.Parts[i]
	switch r.Intn(14) {
	case 0:
		p.Depth += r.Intn(3) - 1
	case 1:
		p.Kind = api.PartKind(r.Intn(6) - 1)
	case 2:
		p.Name = s.Parts[r.Intn(len(s.Parts))].Name
	case 3:
		p.ID = n
	case 4:
		p.Type = n
	case 5:
		p.Presence = api.Presence(n)
	case 6:
		p.Offset = n
	case 7:
		p.Size = n
	case 8:
		p.Block = n
	case 9:
		p.Since += r.Intn(3) - 1
	case 10:
		p.Deprecated = n
	case 11:
		p.Const = [][]uint64{nil, {1}, {2}, {'A', 'B', 0}}[r.Intn(4)]
	case 12:
		s.Parts = slices.Delete(s.Parts, i, i+1)
	case 13:
		k := r.Intn(len(s.Parts))
		s.Parts[i], s.Parts[k] = s.Parts[k], s.Parts[i]
	}
}

func deepCopy(s api.Schema) api.Schema {
	s = levelled(s)
	for i := range s.Types {
		s.Types[i].Const = slices.Clone(s.Types[i].Const)
		s.Types[i].Values = slices.Clone(s.Types[i].Values)
	}
	for i := range s.Parts {
		s.Parts[i].Const = slices.Clone(s.Parts[i].Const)
	}
	return s
}

// P9.2, P9.5: of many changed schemas Valid, and a second one, say the same; none is changed by it.
func TestValidAgainstSecond(t *testing.T) {
	t.Parallel()
	base := sample()
	met := map[api.Errno]int{}
	for seed := range int64(6000) {
		r := rand.New(rand.NewSource(seed))
		s := deepCopy(base)
		for range 1 + r.Intn(3) {
			scramble(r, &s)
		}
		was := deepCopy(s)
		e, n := secondValid(s)
		if ge, gn := schema.Valid(s); ge != e || gn != n {
			t.Fatalf("Valid(%v): %d, %d; want %d, %d", s, ge, gn, e, n)
		}
		if !alike(s, was) {
			t.Fatalf("Valid changes what it is handed: %v", was)
		}
		met[e]++
	}
	for _, e := range []api.Errno{api.OK, api.ErrHeader, api.ErrSince, api.ErrIDTwice, api.ErrNameTwice, api.ErrPartOrder, api.ErrTypeKind, api.ErrTypeValue, api.ErrDimension, api.ErrLengthType, api.ErrNotOptional, api.ErrLayOver, api.ErrLayBlock, api.ErrLayBig, api.ErrSchemaMade} {
		if met[e] < 3 {
			t.Errorf("error %d was met %d times: %v", e, met[e], met)
		}
	}
}

// P9.5: the room behind what is handed in stays; values that are no schemas have an answer.
func TestValidLeavesRoom(t *testing.T) {
	s := sample()
	n, p := api.TypeNode{Depth: -9, Name: "behind"}, api.Part{Depth: -9, Name: "behind"}
	s.Types = append(slices.Clip(s.Types), n, n)
	s.Parts = append(slices.Clip(s.Parts), p, p)
	u := s
	u.Types, u.Parts = s.Types[:len(s.Types)-2], s.Parts[:len(s.Parts)-2]
	words := append(slices.Clone(u.Parts[atMk].Const), 77, 78)
	u.Parts[atMk].Const = words[:3]
	was := deepCopy(s)
	holdValid(t, "with room behind", u, api.OK, 0)
	schema.Message(u, "N")
	schema.ByID(u, 2)
	schema.Same(u, u)
	if !alike(s, was) || words[3] != 77 || words[4] != 78 {
		t.Errorf("the room behind has changed: %v", s)
	}
	holdValid(t, "nothing", api.Schema{}, api.ErrSchemaMade, -1)
	holdValid(t, "no types", api.Schema{Package: "p"}, api.ErrTypeNone, -1)
	holdValid(t, "no header", api.Schema{Package: "p", Types: types.Basic()}, api.ErrHeader, -1)
}

// P9.5: Valid ends soon, also of more than a text can say.
func TestValidTakesLittle(t *testing.T) {
	s := api.Schema{Package: "p", Types: sample().Types, Header: atHeader}
	var values []api.Named
	for i := range 60000 {
		values = append(values, api.Named{Name: "v" + strconv.Itoa(i), Value: uint64(i)})
	}
	s.Types[atSide].Values[1].Since, s.Types[atFlags].Values[1].Since = 0, 0
	s.Types = append(s.Types, api.TypeNode{Depth: 1, Kind: api.TypeEnum, Name: "Many", Prim: api.Uint16, Length: 1, Size: 2, Null: 65535, Max: 65534, Values: values})
	many := len(s.Types) - 1
	for i := range 5000 {
		ns := slices.Clone(s.Types[atDimension : atDimension+3])
		ns[0].Name = "D" + strconv.Itoa(i)
		s.Types = append(s.Types, ns...)
	}
	s.Parts = append(s.Parts, api.Part{Depth: 1, Name: "M", ID: 1, Deprecated: -1})
	for i := range 60000 {
		s.Parts = append(s.Parts, api.Part{Depth: 2, Kind: api.PartField, Name: "f" + strconv.Itoa(i), ID: i, Type: many, Presence: api.Constant, Deprecated: -1, Const: []uint64{59999}})
	}
	for i := range 5000 {
		s.Parts = append(s.Parts, api.Part{Depth: 2, Kind: api.PartGroup, Name: "g" + strconv.Itoa(i), ID: 60000 + i, Type: many + 1 + 3*i, Deprecated: -1})
	}
	took := used(func() {
		if e, n := schema.Valid(s); e != api.OK || n != 0 {
			t.Error(e, n)
		}
	})
	if took > 400<<20 {
		t.Errorf("Valid of %d parts takes %d bytes", len(s.Parts), took)
	}
}

// P9.3: messages by name and by id; any values may be handed in.
func TestMessageAndByID(t *testing.T) {
	s := sample()
	for name, want := range map[string]int{"M": atM, "N": atN, "O": atO, "a": -1, "g": -1, "d": -1, "": -1, "m": -1, "messageHeader": -1, "MN": -1} {
		if got := schema.Message(s, name); got != want {
			t.Errorf("Message(%q) = %d, want %d", name, got, want)
		}
	}
	for id, want := range map[int]int{1: atM, 2: atN, 3: atO, 0: -1, 4: -1, 14: -1, -1: -1, 65535: -1, math.MaxInt: -1, math.MinInt: -1} {
		if got := schema.ByID(s, id); got != want {
			t.Errorf("ByID(%d) = %d, want %d", id, got, want)
		}
	}
	odd := api.Schema{Parts: []api.Part{
		{Kind: 7, Name: "x", ID: -5}, {Kind: api.PartField, Name: "x", ID: -5, Depth: 1}, {Kind: api.PartMessage, Depth: 9, Name: "x", ID: -5},
		{Kind: api.PartMessage, Depth: 1, Name: "x", ID: -5}, {Kind: api.PartMessage, Name: "", ID: math.MinInt}, {Kind: api.PartGroup, Name: "y", ID: 8}, {Kind: api.PartData, Name: "y", ID: 8},
	}}
	if got := schema.Message(odd, "x"); got != 2 {
		t.Errorf("the least place: %d", got)
	}
	if got := schema.ByID(odd, -5); got != 2 {
		t.Errorf("the least place: %d", got)
	}
	if schema.Message(odd, "") != 4 || schema.ByID(odd, math.MinInt) != 4 || schema.Message(odd, "y") != -1 || schema.ByID(odd, 8) != -1 {
		t.Error("odd values")
	}
	if schema.Message(api.Schema{}, "") != -1 || schema.ByID(api.Schema{}, 0) != -1 {
		t.Error("nothing")
	}
}

// P9.3: two schemas differ by any one field, of any kind of value, and by no list that is nil or empty.
func TestSame(t *testing.T) {
	s := sample()
	if !schema.Same(s, deepCopy(s)) || !schema.Same(deepCopy(s), s) || !schema.Same(api.Schema{}, api.Schema{}) {
		t.Error("a schema isn't the same as itself")
	}
	if !schema.Same(api.Schema{}, api.Schema{Types: []api.TypeNode{}, Parts: []api.Part{}}) {
		t.Error("empty lists differ")
	}
	u := deepCopy(s)
	for i := range u.Types {
		u.Types[i].Const = append([]uint64{}, u.Types[i].Const...)
		u.Types[i].Values = append([]api.Named{}, u.Types[i].Values...)
	}
	for i := range u.Parts {
		u.Parts[i].Const = append([]uint64{}, u.Parts[i].Const...)
	}
	if !schema.Same(s, u) || !schema.Same(u, s) {
		t.Error("empty lists inside differ")
	}
	changes := []change{
		func(s *api.Schema) { s.Package += "." },
		func(s *api.Schema) { s.ID++ },
		func(s *api.Schema) { s.Version = -1 },
		func(s *api.Schema) { s.Order = 5 },
		func(s *api.Schema) { s.Header-- },
		func(s *api.Schema) { s.Types = s.Types[:len(s.Types)-1] },
		func(s *api.Schema) { s.Types = append(s.Types, api.TypeNode{}) },
		func(s *api.Schema) { s.Parts = s.Parts[:len(s.Parts)-1] },
		func(s *api.Schema) { s.Parts = append(s.Parts, api.Part{}) },
		func(s *api.Schema) { s.Types, s.Parts = nil, nil },
	}
	for i := range s.Types {
		changes = append(changes,
			func(s *api.Schema) { s.Types[i].Depth++ },
			func(s *api.Schema) { s.Types[i].Kind++ },
			func(s *api.Schema) { s.Types[i].Name += "x" },
			func(s *api.Schema) { s.Types[i].Prim-- },
			func(s *api.Schema) { s.Types[i].Length++ },
			func(s *api.Schema) { s.Types[i].Presence-- },
			func(s *api.Schema) { s.Types[i].Offset++ },
			func(s *api.Schema) { s.Types[i].Size++ },
			func(s *api.Schema) { s.Types[i].Null++ },
			func(s *api.Schema) { s.Types[i].Min++ },
			func(s *api.Schema) { s.Types[i].Max++ },
			func(s *api.Schema) { s.Types[i].Const = append(s.Types[i].Const, 0) },
			func(s *api.Schema) { s.Types[i].Values = append(s.Types[i].Values, api.Named{}) },
		)
	}
	for i := range s.Parts {
		changes = append(changes,
			func(s *api.Schema) { s.Parts[i].Depth++ },
			func(s *api.Schema) { s.Parts[i].Kind-- },
			func(s *api.Schema) { s.Parts[i].Name += "x" },
			func(s *api.Schema) { s.Parts[i].ID++ },
			func(s *api.Schema) { s.Parts[i].Type++ },
			func(s *api.Schema) { s.Parts[i].Presence++ },
			func(s *api.Schema) { s.Parts[i].Offset++ },
			func(s *api.Schema) { s.Parts[i].Size-- },
			func(s *api.Schema) { s.Parts[i].Block++ },
			func(s *api.Schema) { s.Parts[i].Since++ },
			func(s *api.Schema) { s.Parts[i].Deprecated++ },
			func(s *api.Schema) { s.Parts[i].Const = append(s.Parts[i].Const, 0) },
		)
	}
	changes = append(changes,
		func(s *api.Schema) { s.Types[atAB].Const[1]++ },
		func(s *api.Schema) { s.Types[atSide].Values[1].Name = "" },
		func(s *api.Schema) { s.Types[atSide].Values[1].Value++ },
		func(s *api.Schema) { s.Types[atSide].Values[0].Since++ },
		func(s *api.Schema) { s.Parts[atMk].Const[2]++ },
	)
	for i, do := range changes {
		u := deepCopy(s)
		do(&u)
		if schema.Same(s, u) || schema.Same(u, s) {
			t.Errorf("change %d isn't seen", i)
		}
		if !schema.Same(u, deepCopy(u)) {
			t.Errorf("changed by %d it isn't the same as itself", i)
		}
	}
}
