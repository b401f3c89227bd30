package look

import (
	"slices"

	"stencil/api"
	"stencil/ir"
	"stencil/project"
)

// trail is a path of a form, with the part that each of its steps names.
type trail struct {
	form    api.Form
	message *part
	path    []api.Step
	named   []*part
}

// trailOf gives up, where the form is none, or the path isn't one of it.
func trailOf(f api.Form, path []api.Step) *trail {
	err, _ := ir.Check(f)
	need(err)
	if len(path) == 0 {
		panic(api.ErrPath)
	}
	t := &trail{form: f, message: partAt(f.Tokens, 0), path: path}
	inside := t.message
	for i, s := range path {
		inside = inside.find(s.Name)
		if inside == nil || !t.mayEnter(i) {
			panic(api.ErrPath)
		}
		t.named = append(t.named, inside)
	}
	return t
}

// mayEnter tells whether a step has an Entry such as it needs. That all but the last name a group isn't asked: nothing is found inside of what is none.
func (t *trail) mayEnter(i int) bool {
	if t.isLast(i) {
		return t.path[i].Entry == -1
	}
	return t.path[i].Entry >= 0
}

func (t *trail) isLast(i int) bool { return i == len(t.path)-1 }

// thing is what the last step names.
func (t *trail) thing() *part { return t.named[len(t.named)-1] }

func (t *trail) token() api.Token { return t.form.Tokens[t.thing().place] }

// needField gives up, where the thing is none.
func (t *trail) needField() {
	if t.thing().kind != api.CallField {
		panic(api.ErrPath)
	}
}

// needLife gives up, where the thing doesn't live at a version.
func (t *trail) needLife(version int) {
	if !project.Lives(t.form, t.thing().place, version) {
		panic(api.ErrPath)
	}
}

// follow goes the way to the thing in the message at a place of a buffer, and gives up at the first call that is refused.
func (t *trail) follow(b []byte, at int) *guide {
	g := begin(t.form, b, at)
	var walk func(row []*part, i int)
	walk = func(row []*part, i int) {
		p := t.named[i]
		if p.kind == api.CallField {
			return
		}
		g.pass(row[:slices.Index(row, p)])
		if t.isLast(i) {
			return
		}
		entry := t.path[i].Entry
		if entry >= g.call(p).Count {
			panic(api.ErrPath)
		}
		g.entries(p, entry)
		g.enter()
		walk(p.row, i+1)
	}
	walk(t.message.row, 0)
	return g
}
