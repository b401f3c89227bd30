package evolve

import (
	"strings"

	"stencil/api"
)

// names is a stack: the names of the parts that are open, the message's first.
type names struct{ open []string }

// enter closes what doesn't hold a part of that Depth, and opens the part.
func (n *names) enter(depth int, name string) { n.open = append(n.open[:depth-1], name) }

// path leads to the part that was opened last. It is copied, since Join hands a name that stands alone back as it is.
func (n *names) path() string { return strings.Clone(strings.Join(n.open, ".")) }

// walk goes over a schema's parts, and knows the path of the one at which it stands.
type walk struct {
	names
	ahead []api.Part // those to which it hasn't come
	part  api.Part
}

func newWalk(parts []api.Part) *walk { return &walk{ahead: parts} }

// step goes on by one part, if there is one.
func (w *walk) step() bool {
	if len(w.ahead) == 0 {
		return false
	}
	w.part, w.ahead = w.ahead[0], w.ahead[1:]
	w.enter(w.part.Depth, w.part.Name)
	return true
}

// news is the paths of the parts that came at just that version.
func news(s api.Schema, version int) []string {
	var out []string
	for w := newWalk(s.Parts); w.step(); {
		if cameAt(w.part) == version {
			out = append(out, w.path())
		}
	}
	return out
}

// cameAt is a part's own Since: in a valid schema it is never below that of what holds the part.
func cameAt(p api.Part) int { return p.Since }
