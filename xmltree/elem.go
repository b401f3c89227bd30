package xmltree

import (
	"slices"

	"stencil/api"
	"stencil/text"
)

// checkElem checks the element of a number; ahead is the Depth of the one ahead of it, 0 for the first.
func checkElem(n int, e api.Elem, ahead int) api.Errno {
	switch {
	case e.Depth < 1 || e.Depth > ahead+1:
		return api.ErrTreeMade
	case e.Depth == 1 && n > 0:
		return api.ErrTreeRoot
	case e.Depth > api.MaxDepth:
		return api.ErrTreeDepth
	case n >= api.MaxElems:
		return api.ErrTreeBig
	case !text.XMLName(e.Name):
		return api.ErrTreeMade
	case len(e.Attrs) > api.MaxAttrs:
		return api.ErrTreeBig
	}
	if err := checkAttrs(e.Attrs); err != api.OK {
		return err
	}
	if !isChars(e.Text) {
		return api.ErrTreeMade
	}
	return api.OK
}

func checkAttrs(as []api.Attr) api.Errno {
	for n, a := range as {
		if !text.XMLName(a.Name) || !isChars(a.Value) {
			return api.ErrTreeMade
		}
		if hasAttr(as[:n], a.Name) {
			return api.ErrTreeTwice
		}
	}
	return api.OK
}

func isChars(s string) bool {
	err, _ := text.Chars(s)
	return err == api.OK
}

func hasAttr(as []api.Attr, name string) bool {
	return slices.ContainsFunc(as, func(a api.Attr) bool { return a.Name == name })
}

// kidsAt makes the list when it is asked for: it goes through no more of the elements than the one at the place i holds.
func kidsAt(es []api.Elem, i int) []int {
	if i < 0 || i >= len(es) {
		return nil
	}
	var kids []int
	depth := es[i].Depth
	for n := i + 1; n < len(es) && es[n].Depth > depth; n++ {
		if es[n].Depth == depth+1 {
			kids = append(kids, n)
		}
	}
	return kids
}

func sameElem(a, b api.Elem) bool {
	return a.Depth == b.Depth && a.Name == b.Name && a.Text == b.Text && slices.EqualFunc(a.Attrs, b.Attrs, sameAttr)
}

func sameAttr(a, b api.Attr) bool { return a.Name == b.Name && a.Value == b.Value }
