package script

import (
	"strings"

	"stencil/api"
	"stencil/number"
	"stencil/text"
)

// reader reads a line as a call.
type reader struct {
	line string
	at   int // behind what is read
	call api.Call
}

func (r *reader) read() api.Fault {
	field, at := r.field()
	for kind, w := range words() {
		if field == w.text {
			r.call.Kind = api.CallKind(kind)
			return r.behind(w)
		}
	}
	return api.Fault{Err: api.ErrLine, At: at}
}

// behind reads all that stands behind a word.
func (r *reader) behind(w word) api.Fault {
	if w.isNamed {
		name, at := r.field()
		if !text.Symbol(name) {
			return api.Fault{Err: api.ErrLine, At: at}
		}
		r.call.Name = strings.Clone(name)
	}
	if r.find() {
		if fault := w.third(r); fault.Err != api.OK {
			return fault
		}
	}
	if r.find() {
		return api.Fault{Err: api.ErrLine, At: r.at}
	}
	return api.Fault{}
}

// find goes to the next byte that is no space, if there is one.
func (r *reader) find() bool {
	for r.at < len(r.line) && r.line[r.at] == ' ' {
		r.at++
	}
	return r.at < len(r.line)
}

// field takes the next one, and tells its place. Where there is none it is empty, and so neither a word nor a name.
func (r *reader) field() (string, int) {
	r.find()
	from := r.at
	for r.at < len(r.line) && r.line[r.at] != ' ' {
		r.at++
	}
	return r.line[from:r.at], from
}

func (r *reader) words() api.Fault {
	list, from := r.field()
	words, err, at := number.List(api.Uint64, list)
	r.call.Words = words
	return api.Fault{Err: err, At: from + at}
}

func (r *reader) count() api.Fault {
	digits, from := r.field()
	n, err, at := number.Int(digits, greatestCount)
	r.call.Count = n
	return api.Fault{Err: err, At: from + at}
}

// quoted takes no field, since there may be spaces between the quotes.
func (r *reader) quoted() api.Fault {
	s, n, err := text.Unquote(r.line[r.at:])
	r.at += n
	r.call.Text = s
	return api.Fault{Err: err, At: r.at}
}

// nothing leaves what stands there to be refused.
func (r *reader) nothing() api.Fault { return api.Fault{} }
