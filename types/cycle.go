package types

import (
	"iter"

	"stencil/api"
)

// descent goes down from type to type by what they name, and marks each as it is come to.
type descent struct {
	*resolver
	marks map[int]int // by type declaration: when it was come to, from 1 on; far, once it is known what it leads back to
	way   []int       // the type declarations with a mark below far, in the order of their marks
	first int         // the first of all that hold themselves; far, if there is none
	far   int
}

// refuseCycles refuses the first composite that holds itself.
func (r *resolver) refuseCycles() {
	far := len(r.ds) + 1
	d := descent{resolver: r, marks: map[int]int{}, first: far, far: far}
	for _, i := range r.types {
		if d.marks[i] == 0 {
			d.down(i)
		}
	}
	if d.first < far {
		r.refuse(d.first, api.ErrTypeCycle)
	}
}

// down goes down from a type declaration, and tells the least mark that it leads back to.
func (d *descent) down(i int) int {
	mark, start := len(d.marks)+1, len(d.way)
	d.marks[i] = mark
	d.way = append(d.way, i)
	least := mark
	for k := range d.leadsTo(i) {
		back := d.marks[k]
		if back == 0 {
			back = d.down(k)
		} else if k == i {
			d.hold(i)
		}
		least = min(least, back)
	}
	if least == mark {
		d.close(start)
	}
	return least
}

// close ends the way at a type declaration that leads back to none ahead of it: those from it on are the ones that lead to it and to each other.
func (d *descent) close(start int) {
	ring := d.way[start:]
	for _, i := range ring {
		d.marks[i] = d.far
		if len(ring) > 1 {
			d.hold(i)
		}
	}
	d.way = d.way[:start]
}

// hold keeps one that holds itself, if it is the first.
func (d *descent) hold(i int) { d.first = min(d.first, i) }

// leadsTo gives the type declarations that are named in one, at any depth. Only refs can name composites there, and only composites lead further.
func (r *resolver) leadsTo(i int) iter.Seq[int] {
	return func(yield func(int) bool) {
		for k := i + 1; k < r.ends[i]; k++ {
			named, ok := r.byName[r.ds[k].Type]
			if ok && !yield(named) {
				return
			}
		}
	}
}
