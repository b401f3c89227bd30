package project

import (
	"strings"

	"stencil/api"
)

// formAt is a form as it was at one of its versions; its texts and lists are copies.
func formAt(f api.Form, version int) api.Form {
	came := comings(f.Tokens)
	turned := turner(came, version)
	var kept []api.Token
	for i, t := range f.Tokens {
		if came[i] > version {
			continue
		}
		t.Name, t.Const = strings.Clone(t.Name), append([]uint64(nil), t.Const...)
		t.Pair = turned(t.Pair)
		if hasBlock(t.Op) {
			t.Block = blockAt(f.Tokens, came, i, version)
		}
		kept = append(kept, t)
	}
	f.Version, f.Tokens = version, kept
	return f
}

// turner answers what tells of the place of a token that stays its place at the version: as many stay ahead of it.
func turner(came []int, version int) func(place int) int {
	places := make([]int, len(came))
	stay := 0
	for i, at := range came {
		places[i] = stay
		if at <= version {
			stay++
		}
	}
	return func(place int) int { return places[place] }
}

func hasBlock(op api.TokenOp) bool { return op == api.BeginMessage || op == api.BeginGroup }

// blockAt is the block length at a version of the message or group that begins at a place. Its fields stand right behind that, ahead of all else.
func blockAt(tokens []api.Token, came []int, place, version int) int {
	for i := place + 1; tokens[i].Op == api.BeginField; i = tokens[i].Pair + 1 {
		if tokens[i].Size != 0 && came[i] > version {
			return tokens[i].Offset
		}
	}
	return tokens[place].Block
}
