package value

import "stencil/api"

// budget is what a message has weighed so far.
type budget struct{ weight int }

// weigh gives up where the message weighs too much.
func (b *budget) weigh(bytes int) {
	b.weight += bytes
	if b.weight > api.MaxMessage {
		panic(api.ErrLong)
	}
}

// attempt answers the error with which what is done gives up.
func attempt(do func()) (err api.Errno) {
	defer func() {
		if caught := recover(); caught != nil {
			err = caught.(api.Errno)
		}
	}()
	do()
	return api.OK
}
