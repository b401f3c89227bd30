package project

import (
	"slices"

	"stencil/api"
)

// history is when each token of a form came, with a stack of what is open at the next one.
type history struct {
	stack
	came []int // by place
}

// comings tells when each token of a form came.
func comings(tokens []api.Token) []int {
	h := &history{came: make([]int, 0, len(tokens))}
	for _, t := range tokens {
		h.came = append(h.came, h.pass(t))
	}
	return h.came
}

// pass is when the next token came. In a form just those tokens have a Since that are said to have one.
func (h *history) pass(t api.Token) int {
	if ends(t.Op) {
		return h.pop()
	}
	came := max(h.top(), t.Since)
	if begins(t.Op) {
		h.push(came)
	}
	return came
}

// begins goes by api's order, as ends does: each Op that begins something stands ahead of that which ends it, and the two that do neither stand last.
func begins(op api.TokenOp) bool { return op < api.Encoding && op%2 == 0 }

func ends(op api.TokenOp) bool { return op < api.Encoding && op%2 == 1 }

// versions are those of a form at which a token came, rising. A Choice alone may have come above them all.
func versions(f api.Form) []int {
	counts := map[int]int{} // by version: how many came at it
	for _, came := range comings(f.Tokens) {
		if came <= f.Version {
			counts[came]++
		}
	}
	out := make([]int, 0, len(counts))
	for version := range counts {
		out = append(out, version)
	}
	slices.Sort(out)
	return out
}
