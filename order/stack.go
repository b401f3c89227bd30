package order

// level is a message or group that is open, and how far its calls have come.
type level struct {
	part  *part
	left  int  // how many of the group's entries are still to begin
	begun bool // whether the machine stands in the message, or in one of the group's entries
	come  int  // how many members of the row have come in that
}

// isWhole tells whether the block in which the machine stands has all that it must have.
func (l level) isWhole() bool { return l.begun && l.come == len(l.part.row) }

// isOver tells whether nothing more must come, nor any entry.
func (l level) isOver() bool { return l.isWhole() && l.left == 0 }

// stack is what is open, the innermost last. The message is never closed.
type stack struct{ open []level }

func (s *stack) push(l level) { s.open = append(s.open, l) }

// top is what was opened last, in its place, so that it may be changed there.
func (s *stack) top() *level { return &s.open[len(s.open)-1] }

func (s *stack) pop() { s.open = s.open[:len(s.open)-1] }

// leave closes the groups that are over, from the innermost on.
func (s *stack) leave() {
	for len(s.open) > 1 && s.top().isOver() {
		s.pop()
	}
}

func (s *stack) copied() stack { return stack{open: append([]level(nil), s.open...)} }
