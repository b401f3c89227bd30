package look

import (
	"strconv"
	"strings"

	"stencil/api"
	"stencil/text"
)

// lastEntry is the greatest number that an entry may have.
const lastEntry = api.MaxEntries - 1

// reader reads a path's text. At the first byte that can't stand there it gives up, with at as that byte's place.
type reader struct {
	s  string
	at int
}

func (r *reader) path() []api.Step {
	if r.s == "" {
		return nil
	}
	steps := []api.Step{r.step()}
	for r.at < len(r.s) {
		r.want('.')
		steps = append(steps, r.step())
	}
	return steps
}

func (r *reader) step() api.Step {
	s := api.Step{Name: r.name(), Entry: -1}
	if r.sees('[') {
		r.at++
		s.Entry = r.number()
		r.want(']')
	}
	return s
}

// name goes on as long as a symbol does: what a symbol begins with is one itself.
func (r *reader) name() string {
	from := r.at
	for r.at < len(r.s) && text.Symbol(r.s[from:r.at+1]) {
		r.at++
	}
	r.needSome(from)
	return strings.Clone(r.s[from:r.at])
}

// number goes on as long as it may. A digit that can't stand there is left to be refused, since no ] stands in its place.
func (r *reader) number() int {
	from, n := r.at, 0
	for r.at < len(r.s) && r.s[r.at] >= '0' && r.s[r.at] <= '9' {
		more := 10*n + int(r.s[r.at]-'0')
		if more > lastEntry || r.at > from && n == 0 {
			break
		}
		n = more
		r.at++
	}
	r.needSome(from)
	return n
}

// needSome gives up, where nothing was read from a place on.
func (r *reader) needSome(from int) {
	if r.at == from {
		panic(api.ErrPath)
	}
}

func (r *reader) sees(c byte) bool { return r.at < len(r.s) && r.s[r.at] == c }

func (r *reader) want(c byte) {
	if !r.sees(c) {
		panic(api.ErrPath)
	}
	r.at++
}

// textOf is the text that says a path.
func textOf(path []api.Step) (string, api.Errno) {
	var b strings.Builder
	for i, s := range path {
		if !text.Symbol(s.Name) || s.Entry < -1 || s.Entry > lastEntry {
			return "", api.ErrPath
		}
		if i > 0 {
			b.WriteByte('.')
		}
		b.WriteString(s.Name)
		if s.Entry >= 0 {
			b.WriteString("[" + strconv.Itoa(s.Entry) + "]")
		}
	}
	return b.String(), api.OK
}

// copied is a path in memory of its own.
func copied(path []api.Step) []api.Step {
	out := make([]api.Step, len(path))
	for i, s := range path {
		out[i] = api.Step{Name: strings.Clone(s.Name), Entry: s.Entry}
	}
	return out
}
