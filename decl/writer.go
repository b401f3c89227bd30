package decl

import (
	"strings"

	"stencil/api"
)

// writeAll writes the declarations up to the first whose Kind is none.
func writeAll(ds []api.Decl) []api.Elem {
	attributes := attributesByKind()
	var es []api.Elem
	for _, d := range ds {
		if !isKind(d.Kind) {
			break
		}
		es = append(es, written(d, attributes[d.Kind]))
	}
	return es
}

// written is the element that says a declaration. Where that is none that can be said, the element says another one, or none.
func written(d api.Decl, known []attribute) api.Elem {
	e := api.Elem{Depth: d.Depth, Name: names[d.Kind]}
	said, unsaid := draft{Decl: d}, draft{Decl: bare(d.Kind)}
	for _, k := range known {
		value := k.write(&said)
		if k.must || value != k.write(&unsaid) {
			e.Attrs = append(e.Attrs, api.Attr{Name: k.name, Value: strings.Clone(value)})
		}
	}
	if saysByText(d.Kind) {
		e.Text = strings.Clone(d.Value)
	}
	return e
}

// sameAhead counts the declarations up to the first that isn't the same in both lists, places aside; back is no longer than ds.
func sameAhead(back, ds []api.Decl) int {
	for n, d := range back {
		d.At = ds[n].At
		if d != ds[n] {
			return n
		}
	}
	return len(back)
}
