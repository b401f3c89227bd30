package value

import (
	"stencil/api"
	"stencil/order"
)

// maker makes the tree that calls describe, and gives up where they describe none. The machine takes them, so that each that is taken is the one that the part wants where the maker stands.
type maker struct {
	*order.Machine
	budget
	calls  []api.Call          // those that are still to be taken
	called map[string][]uint64 // the words of the fields that were called in the block
	made   []api.Val
}

// makers are what makes the nodes of a part and all that they hold, by its kind.
func makers() [5]func(*maker, *part) {
	return [...]func(*maker, *part){
		api.ValMessage: (*maker).message,
		api.ValField:   (*maker).field,
		api.ValGroup:   (*maker).group,
		api.ValEntry:   (*maker).entry,
		api.ValData:    (*maker).data,
	}
}

// tree is what the calls describe, or the error.
func (k *maker) tree(message *part) ([]api.Val, api.Errno) {
	err := attempt(func() { makers()[message.kind](k, message) })
	if err != api.OK {
		return nil, err
	}
	return k.made, api.OK
}

// take is the next call.
func (k *maker) take() api.Call {
	if len(k.calls) == 0 {
		panic(api.ErrTree)
	}
	c := k.calls[0]
	want(k.Step(c))
	k.calls = k.calls[1:]
	return c
}

func want(err api.Errno) {
	if err != api.OK {
		panic(err)
	}
}

func (k *maker) message(p *part) {
	k.weigh(p.weight)
	k.block(p)
	for len(k.calls) > 0 {
		k.take()
	}
}

// block makes a message or an entry with its parts. All calls of its fields come ahead of the first one's node, so that the last of each tells.
func (k *maker) block(p *part) {
	k.made = append(k.made, p.node(nil, ""))
	k.called = map[string][]uint64{}
	for len(k.calls) > 0 && k.calls[0].Kind == api.CallField {
		c := k.take()
		want(p.fields[c.Name].faultOf(c.Words, ""))
		k.called[c.Name] = c.Words
	}
	by := makers()
	for _, held := range p.parts {
		by[held.kind](k, held)
	}
}

func (k *maker) field(p *part) {
	words, ok := k.called[p.name]
	if !ok {
		k.made = append(k.made, p.nullNode())
		return
	}
	k.made = append(k.made, p.node(copied(words), ""))
}

// group weighs all entries at once, so that none is made of more than a message has.
func (k *maker) group(p *part) {
	c := k.take()
	entry, by := p.parts[0], makers()
	k.weigh(p.weight + c.Count*entry.weight)
	k.made = append(k.made, p.node(nil, ""))
	for range c.Count {
		by[entry.kind](k, entry)
	}
}

func (k *maker) entry(p *part) {
	k.take()
	k.block(p)
}

func (k *maker) data(p *part) {
	c := k.take()
	want(p.faultOf(nil, c.Text))
	k.weigh(p.weight + len(c.Text))
	k.made = append(k.made, p.node(nil, c.Text))
}
