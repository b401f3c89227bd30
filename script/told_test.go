package script_test

import (
	"math"
	"testing"

	"stencil/api"
	"stencil/script"
)

func tells(t *testing.T, c api.Call, x api.Told, e api.Errno, want string) {
	t.Helper()
	if s := script.Told(c, x, e); s != want {
		t.Errorf("P25.3: Told(%s, %s, %v) = %s, not %s", shown(c), shown(x), e, short(s), short(want))
	}
}

// P25.3: each Kind tells what is its own, whatever else was told and whatever else the call has.
func TestToldKinds(t *testing.T) {
	for _, x := range []api.Told{{}, {Words: []uint64{}}, {Words: []uint64{0}, Count: -1, Text: ""}, {Words: []uint64{math.MaxUint64, 7, 7}, Count: 65536, Text: "a \"\n\xff"}, {Count: math.MinInt, Text: " "}, {Words: []uint64{1}, Count: math.MaxInt}} {
		for _, rest := range []api.Call{{}, {Name: "a", Words: []uint64{5}, Count: 6, Text: "seven"}, {Name: "no name", Count: -1}} {
			for k := api.CallKind(-2); k < 7; k++ {
				rest.Kind = k
				tells(t, rest, x, ok, toldAgain(rest, x, ok))
			}
			for _, k := range []api.CallKind{math.MinInt, math.MaxInt, 256, 1 << 32} {
				rest.Kind = k
				tells(t, rest, x, ok, "ok")
			}
		}
	}
}

// P25.3: an error is told alone, also one that is none of the errors.
func TestToldErrors(t *testing.T) {
	for e, want := range map[api.Errno]string{
		api.ErrArg: "! E1", api.ErrShort: "! E11", api.ErrVersion: "! E130", api.ErrOrder: "! E140", api.ErrWrap: "! E180", api.ErrLine: "! E250", api.ErrDone: "! E251",
		9999: "! E9999", -1: "! E-1", math.MaxInt: "! E9223372036854775807",
	} {
		for k := api.CallKind(-1); k < 5; k++ {
			tells(t, api.Call{Kind: k}, api.Told{}, e, want)
			tells(t, api.Call{Kind: k, Name: "a"}, api.Told{Words: []uint64{1}, Count: 2, Text: "x"}, e, want)
		}
	}
}

// P25.3: lines that are told for data and fields.
func TestToldTexts(t *testing.T) {
	tells(t, api.Call{Kind: api.CallData}, api.Told{}, ok, `= ""`)
	tells(t, api.Call{Kind: api.CallData}, api.Told{Text: "a\n\"b\" \\ \x00é"}, ok, `= "a\n\"b\" \\ \x00\xc3\xa9"`)
	tells(t, api.Call{Kind: api.CallField}, api.Told{Words: []uint64{0}}, ok, "= 0")
	tells(t, api.Call{Kind: api.CallField}, api.Told{Words: []uint64{math.MaxUint64, 0, 0}}, ok, "= 18446744073709551615,0,0")
	tells(t, api.Call{Kind: api.CallGroup}, api.Told{}, ok, "= 0")
	tells(t, api.Call{Kind: api.CallGroup}, api.Told{Count: -7}, ok, "= -7")
}
