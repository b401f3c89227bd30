package ir

import "stencil/api"

// marks are those fields of a token that aren't zero, or may be other than zero; Op, Name and Pair aside, which every token has.
type marks int

const (
	markID marks = 1 << iota
	markOffset
	markSize
	markSince
	markPrim
	markLength
	markPresence
	markNull
	markMin
	markMax
	markConst
	markValue
	markBlock
	markFull
	markA
	markB
)

// mayHave is the document's table by Op; those that end something have no more than every token.
var mayHave = [...]marks{
	api.BeginMessage:   markID | markSince | markBlock | markFull,
	api.BeginField:     markID | markOffset | markSize | markSince | markPresence | markConst,
	api.BeginGroup:     markID | markSince | markSize | markBlock | markFull | markA | markB,
	api.BeginData:      markID | markSince | markSize | markA | markPrim,
	api.BeginComposite: markOffset | markSize,
	api.BeginEnum:      markOffset | markSize | markPresence,
	api.BeginSet:       markOffset | markSize | markPresence,
	api.Encoding:       markOffset | markSize | markPrim | markLength | markPresence | markNull | markMin | markMax | markConst,
	api.Choice:         markValue | markSince,
}

// marksOf stands in the order of the marks.
func marksOf(t *api.Token) marks {
	var has marks
	for i, isSet := range [...]bool{
		t.ID != 0, t.Offset != 0, t.Size != 0, t.Since != 0, t.Prim != 0, t.Length != 0, t.Presence != 0, t.Null != 0, t.Min != 0, t.Max != 0,
		len(t.Const) != 0, t.Value != 0, t.Block != 0, t.Full != 0, t.A != api.Spot{}, t.B != api.Spot{},
	} {
		if isSet {
			has |= 1 << i
		}
	}
	return has
}

func hasMore(t *api.Token) bool { return marksOf(t)&^mayHave[t.Op] != 0 }
