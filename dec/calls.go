package dec

import (
	"stencil/api"
	"stencil/prim"
)

// kinds are what a call of each Kind tells and goes through, once it may come; where it is refused, whoever calls takes back what it has gone through. Only a field is picked by its name: of all else the next one comes.
func kinds() [4]func(*Decoder, string) (api.Told, api.Errno) {
	return [...]func(*Decoder, string) (api.Told, api.Errno){
		api.CallField: (*Decoder).field,
		api.CallGroup: (*Decoder).group,
		api.CallNext:  (*Decoder).next,
		api.CallData:  (*Decoder).data,
	}
}

func (d *Decoder) field(name string) (api.Told, api.Errno) {
	p := d.top().block.fields[name]
	if !d.isThere(p) {
		return api.Told{Words: p.nulls()}, api.OK
	}
	return api.Told{Words: d.read(p)}, api.OK
}

// read is a field's words as they stand in the block by now.
func (d *Decoder) read(p *part) []uint64 {
	words := make([]uint64, 0, p.words)
	for _, l := range p.leaves {
		at := d.base + l.first.Offset
		for range l.length {
			w, _ := d.Get(at, l.first.Prim)
			words = append(words, w)
			at += prim.Size(l.first.Prim)
		}
	}
	return words
}

// group weighs all entries at once, though none is gone through yet.
func (d *Decoder) group(string) (api.Told, api.Errno) {
	p := d.member()
	if !d.isThere(p) {
		return api.Told{}, api.OK
	}
	length, n, err := d.GetDim(p.token)
	if err != api.OK {
		return api.Told{}, err
	}
	d.entries += n
	switch {
	case uint64(n) > prim.Max(p.token.B.Prim):
		return api.Told{}, api.ErrCount
	case d.entries > api.MaxEntries:
		return api.Told{}, api.ErrEntries
	case n > 0 && length < p.entry.reach(d.acting):
		return api.Told{}, api.ErrBlock
	}
	if err := d.weigh(p.token.Size + n*max(length, p.entry.full)); err != api.OK {
		return api.Told{}, err
	}
	d.push(level{block: p.entry, length: length, left: n, come: len(p.entry.row)})
	return api.Told{Count: n}, api.OK
}

func (d *Decoder) next(string) (api.Told, api.Errno) {
	d.leave()
	top := d.top()
	at, err := d.Claim(top.length)
	if err != api.OK {
		return api.Told{}, err
	}
	top.left--
	top.come = 0
	d.base = at
	return api.Told{}, api.OK
}

// data goes by steps of its own: of a length that can't be, or weighs too much, it isn't asked whether the bytes are there, as the cursor would.
func (d *Decoder) data(string) (api.Told, api.Errno) {
	p := d.member()
	if !d.isThere(p) {
		return api.Told{}, api.OK
	}
	size, spot := p.token.Size, p.token.A
	at, err := d.Claim(size)
	if err != api.OK {
		return api.Told{}, err
	}
	n, _ := d.Get(at+spot.Offset, spot.Prim)
	if n > prim.Max(spot.Prim) {
		return api.Told{}, api.ErrData
	}
	if err := d.weigh(size + int(n)); err != api.OK {
		return api.Told{}, err
	}
	at, err = d.Claim(int(n))
	if err != api.OK {
		return api.Told{}, err
	}
	s, err := d.Chars(at, int(n))
	return api.Told{Text: s}, err
}
