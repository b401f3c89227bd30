package sbe

import "stencil/api"

// refusal is what a line is given up with.
type refusal struct{ err api.Errno }

// told are the lines that something tells; where it gives up, the line of the error.
func told(tell func() []string) (lines []string) {
	defer func() {
		thrown := recover()
		if thrown == nil {
			return
		}
		given, own := thrown.(refusal)
		if !own {
			panic(thrown)
		}
		lines = []string{"! " + given.err.Error()}
	}()
	return tell()
}

// want gives up with an error, unless something holds.
func want(holds bool, err api.Errno) {
	if !holds {
		panic(refusal{err})
	}
}

// need is what was answered, if it was answered with no error; needAt likewise, of an answer that tells a place too.
func need[T any](answer T, err api.Errno) T {
	want(err == api.OK, err)
	return answer
}

func needAt[T any](answer T, err api.Errno, _ int) T { return need(answer, err) }
