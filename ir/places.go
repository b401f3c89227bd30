package ir

import (
	"iter"

	"stencil/api"
)

// each goes over places that were gathered when it was asked for, so that what becomes of the form behind that makes no difference.
func each(places []int) iter.Seq[int] {
	return func(yield func(int) bool) {
		for _, place := range places {
			if !yield(place) {
				return
			}
		}
	}
}

// isAt tells whether a value is a form, and has a token at a place.
func isAt(f api.Form, i int) bool {
	if i < 0 || i >= len(f.Tokens) {
		return false
	}
	err, _ := Check(f)
	return err == api.OK
}

func parts(f api.Form, i int) []int {
	if !isAt(f, i) || !holdsParts(f.Tokens[i].Op) {
		return nil
	}
	var places []int
	for k := i + 1; k < f.Tokens[i].Pair; k = f.Tokens[k].Pair + 1 {
		places = append(places, k)
	}
	return places
}

func leaves(f api.Form, i int) []int {
	if !isAt(f, i) || f.Tokens[i].Op != api.BeginField || f.Tokens[i].Presence == api.Constant {
		return nil
	}
	var places []int
	for k := i + 1; k < f.Tokens[i].Pair; k++ {
		if t := f.Tokens[k]; t.Op == api.Encoding && t.Presence != api.Constant {
			places = append(places, k)
		}
	}
	return places
}

func holdsParts(op api.TokenOp) bool { return op == api.BeginMessage || op == api.BeginGroup }
