package enc

import (
	"testing"

	"stencil/api"
)

// P18.2: header and block just as heavy as a message may be, and one byte heavier; which error comes first. A form can't be so heavy, since its header's Size and its Full are at most MaxBlock each: so the plan is changed here.
func TestWrapTooHeavy(t *testing.T) {
	message := []api.Token{{Op: api.BeginMessage, Name: "M", Pair: 1}, {Op: api.EndMessage, Name: "M"}}
	head := api.Head{Size: 4, Block: api.Spot{Prim: api.Uint8}, Template: api.Spot{Prim: api.Uint8, Offset: 1}, Schema: api.Spot{Prim: api.Uint8, Offset: 2}, Version: api.Spot{Prim: api.Uint8, Offset: 3}}
	e, err := New(api.Form{Head: head, Tokens: message})
	if err != api.OK {
		t.Fatal(err)
	}
	b := make([]byte, 4)
	e.blocks[0].weight = api.MaxMessage - 4
	if err := e.Wrap(b, 0); err != api.OK || e.End() != 4 || !e.Done() {
		t.Errorf("P18.2: Wrap of MaxMessage = %v, End %d, Done %v", err, e.End(), e.Done())
	}
	e.blocks[0].weight++
	for at, want := range map[int]api.Errno{-1: api.ErrBuffer, 0: api.ErrLong, 4: api.ErrLong, 5: api.ErrBuffer} {
		if err := e.Wrap(b, at); err != want || e.End() != 4 || !e.Done() {
			t.Errorf("P18.2: Wrap of more at %d = %v, not %v; End %d, Done %v", at, err, want, e.End(), e.Done())
		}
	}
}
