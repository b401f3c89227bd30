package dec

import "stencil/api"

// walk is how far the bytes of a message are gone through, by the parts that live in them.
type walk struct {
	begun   bool // whether there is a message
	skipped bool // whether Skip has gone to its end
	acting  int  // the version that the header told
	weight  int  // of what was gone through
	entries int  // of all groups gone through
	base    int  // where the block lies in which fields may be read
	open    [api.MaxNest + 1]level
	depth   int // of the innermost that is open: the message's is 0
}

// level is a message or group that is open.
type level struct {
	block  *block
	length int // of a group: that of each entry's block, as its dimension told
	left   int // how many of the group's entries are still to begin
	come   int // how many members of the row have come; all of them, where the first entry is to begin
}

// isWhole tells whether of the message, or of the entry, nothing is left.
func (l *level) isWhole() bool { return l.come == len(l.block.row) }

// isOver tells whether no entry is left either.
func (l *level) isOver() bool { return l.isWhole() && l.left == 0 }

// top is the innermost that is open, in its place, so that it may be changed there.
func (w *walk) top() *level { return &w.open[w.depth] }

func (w *walk) push(l level) {
	w.depth++
	w.open[w.depth] = l
}

// leave closes the groups that are over, from the innermost on; the message is never closed.
func (w *walk) leave() {
	for w.depth > 0 && w.top().isOver() {
		w.depth--
	}
}

// coming is the Kind of what comes next, where what is open isn't over.
func (w *walk) coming() api.CallKind {
	top := w.top()
	if top.isWhole() {
		return api.CallNext
	}
	return top.block.row[top.come].kind
}

// member is the one of the row that comes next: it has come then. Rows at a reader's version and at the acting one are both fronts of the whole form's (what is newer stands behind), so one number tells the place in all three.
func (w *walk) member() *part {
	w.leave()
	top := w.top()
	p := top.block.row[top.come]
	top.come++
	return p
}

// isThere tells whether a part lives in the bytes. Its Since is enough: in a form no part is older than what holds it.
func (w *walk) isThere(p *part) bool { return p.since <= w.acting }

// weigh adds to the weight; where it is refused the call is taken back whole.
func (w *walk) weigh(n int) api.Errno {
	w.weight += n
	if w.weight > api.MaxMessage {
		return api.ErrLong
	}
	return api.OK
}
