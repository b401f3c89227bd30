package project

// stack is when all that is open came, the innermost last.
type stack struct{ open []int }

func (s *stack) push(came int) { s.open = append(s.open, came) }

// top is when the innermost came; 0 where nothing is open, since nothing came earlier.
func (s *stack) top() int {
	if len(s.open) == 0 {
		return 0
	}
	return s.open[len(s.open)-1]
}

func (s *stack) pop() int {
	came := s.top()
	s.open = s.open[:len(s.open)-1]
	return came
}
