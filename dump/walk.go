package dump

import (
	"iter"
	"slices"

	"stencil/api"
	"stencil/dec"
	"stencil/project"
)

// begin is a decoder with the message at a place of a buffer, for a reader who knows all of the form.
func begin(f api.Form, b []byte, at int) (*dec.Decoder, api.Errno) {
	d, err := dec.New(f, f.Version)
	if err != api.OK {
		return nil, err
	}
	return d, d.Wrap(b, at)
}

// fault is why the message at a place can't be gone through whole.
func fault(f api.Form, b []byte, at int) api.Errno {
	d, err := begin(f, b, at)
	if err == api.OK {
		_, err = d.Skip()
	}
	return err
}

// walk gives the spans of the message at a place of a buffer, up to what is refused. Their From and To are told from the message's beginning on.
func walk(f api.Form, b []byte, at int) iter.Seq[api.Span] {
	return func(yield func(api.Span) bool) {
		d, err := begin(f, b, at)
		if err != api.OK {
			return
		}
		acting, _ := project.At(f, d.Acting())
		t := &teller{Decoder: d, yield: yield, start: at, told: at}
		var through func(p *part, path []api.Step)
		through = func(p *part, path []api.Step) {
			t.block(p.fields, path)
		row:
			for _, m := range p.row {
				for i := range t.member(m, path) {
					t.enter()
					through(m, slices.Concat(path, []api.Step{{Name: m.name, Entry: i}}))
					if t.isOver {
						break row
					}
				}
			}
		}
		t.tell(at+f.Head.Size, api.SpanHead, nil)
		through(partAt(acting.Tokens, 0), nil)
	}
}

// moved are spans whose From and To are told from another place on.
func moved(spans iter.Seq[api.Span], by int) iter.Seq[api.Span] {
	return func(yield func(api.Span) bool) {
		for s := range spans {
			s.From += by
			s.To += by
			if !yield(s) {
				return
			}
		}
	}
}
