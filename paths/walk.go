package paths

import (
	"slices"

	"stencil/api"
)

// walk goes over lists of calls that make messages.
type walk struct {
	most  int
	calls []api.Call // the list that is being made
	todo  []func()   // what is still to do, the last one first: each takes the list back to where it was, one step further, and to its end
}

// over yields list by list, till there are no more or none is wanted.
func (w *walk) over(m *machine, yield func([]api.Call) bool) {
	w.todo = append(w.todo, func() { w.finish(m) })
	for len(w.todo) > 0 {
		last := len(w.todo) - 1
		step := w.todo[last]
		w.todo = w.todo[:last]
		step()
		if !yield(slices.Clone(w.calls)) {
			return
		}
	}
}

// finish brings the list to its end by groups without entries.
func (w *walk) finish(m *machine) {
	for c, ok := m.onward(); ok; c, ok = m.onward() {
		w.call(m, c)
	}
}

// call adds a call that may come, and leaves it to do later to call a group with one entry more: so all lists with this count come ahead of those.
func (w *walk) call(m *machine, c api.Call) {
	if c.Kind == api.CallGroup && c.Count < w.most {
		w.later(m, c)
	}
	m.take(c)
	w.calls = append(w.calls, c)
}

func (w *walk) later(m *machine, c api.Call) {
	c.Count++
	// There may be too many entries.
	if !m.may(c) {
		return
	}
	from, length := m.copied(), len(w.calls)
	w.todo = append(w.todo, func() {
		w.calls = w.calls[:length]
		w.call(from, c)
		w.finish(from)
	})
}
