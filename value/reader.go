package value

import "stencil/api"

// reader goes down a tree by the parts of a form, and gives up where the list is none.
type reader struct {
	budget
	list    []api.Val
	version int // at which it is a tree
	next    int // the number of the node that is to be read
	entries int
	told    func(p *part, number int) // what is done at a node of a part, once it is read
	missing func(p *part)             // what is done where a part has no node, since it doesn't live at the version
}

// read answers the error, and the number of the node that is refused.
func (r *reader) read(message *part) (api.Errno, int) {
	err := attempt(func() { kinds()[message.kind](r, message) })
	if err != api.OK {
		return err, r.next
	}
	return api.OK, 0
}

// kinds are what reads the nodes of a part and all that they hold, by its kind.
func kinds() [5]func(*reader, *part) {
	return [...]func(*reader, *part){
		api.ValMessage: (*reader).message,
		api.ValField:   (*reader).node,
		api.ValGroup:   (*reader).group,
		api.ValEntry:   (*reader).block,
		api.ValData:    (*reader).node,
	}
}

func (r *reader) message(p *part) {
	r.block(p)
	if r.next < len(r.list) {
		panic(api.ErrTree)
	}
}

// block reads a message or an entry with its parts.
func (r *reader) block(p *part) {
	r.node(p)
	by := kinds()
	for _, held := range p.parts {
		// What holds it lives, or it would not be come to; so its own Since tells.
		if held.since > r.version {
			r.missing(held)
		} else {
			by[held.kind](r, held)
		}
	}
}

// group reads entries as long as there are any: what else stands there must be what comes behind the group.
func (r *reader) group(p *part) {
	r.node(p)
	entry, by := p.parts[0], kinds()
	for n := uint64(0); r.stands(entry); n++ {
		if n == p.most || r.entries == api.MaxEntries {
			panic(api.ErrEntries)
		}
		r.entries++
		by[entry.kind](r, entry)
	}
}

// node reads the one that is next.
func (r *reader) node(p *part) {
	if !r.stands(p) {
		panic(api.ErrTree)
	}
	v := r.list[r.next]
	if err := p.faultOf(v.Words, v.Text); err != api.OK {
		panic(err)
	}
	r.weigh(p.weight + len(v.Text))
	r.told(p, r.next)
	r.next++
}

// stands tells whether the next node may be one of a part, whatever its words or its text are.
func (r *reader) stands(p *part) bool {
	if r.next == len(r.list) {
		return false
	}
	v := &r.list[r.next]
	return v.Kind == p.kind && v.Depth == p.depth && v.Name == p.name &&
		(p.kind == api.ValField || len(v.Words) == 0) && (p.kind == api.ValData || v.Text == "")
}
