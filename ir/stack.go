package ir

// stack is what is open, the innermost last.
type stack[T any] struct{ open []T }

func (s *stack[T]) push(x T) { s.open = append(s.open, x) }

func (s *stack[T]) isEmpty() bool { return len(s.open) == 0 }

// top is what was opened last, in its place, so that it may be changed there.
func (s *stack[T]) top() *T { return &s.open[len(s.open)-1] }

func (s *stack[T]) pop() T {
	x := *s.top()
	s.open = s.open[:len(s.open)-1]
	return x
}
