package codec

import (
	"stencil/api"
	"stencil/enc"
	"stencil/value"
)

// writer is an encoder that takes the calls of a tree.
type writer struct{ *enc.Encoder }

// write fills b, which is just as long as the message. The tree has been measured by then, so neither the encoder nor any of its calls refuses.
func write(f api.Form, m []api.Val, b []byte) {
	calls, _ := value.Calls(f, m)
	e, _ := enc.New(f)
	// The encoder leaves what no leaf takes as it is.
	clear(b)
	e.Wrap(b, 0)
	by := writer{e}.kinds()
	for _, c := range calls {
		by[c.Kind](c)
	}
}

// kinds are what hands a call of each Kind to the encoder.
func (w writer) kinds() [4]func(api.Call) api.Errno {
	return [...]func(api.Call) api.Errno{
		api.CallField: w.field,
		api.CallGroup: w.group,
		api.CallNext:  w.next,
		api.CallData:  w.data,
	}
}

func (w writer) field(c api.Call) api.Errno { return w.Field(c.Name, c.Words...) }
func (w writer) group(c api.Call) api.Errno { return w.Group(c.Name, c.Count) }
func (w writer) next(api.Call) api.Errno    { return w.Next() }
func (w writer) data(c api.Call) api.Errno  { return w.Data(c.Name, c.Text) }
