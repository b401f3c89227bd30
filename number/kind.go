package number

import (
	"stencil/api"
	"stencil/prim"
)

// kind is how the values of a primitive type are told as texts.
type kind struct {
	prim  api.Prim
	read  func(s string) (uint64, api.Errno, int)
	write func(w uint64) string // of the type's words alone
}

// kindOf tells false of what is no type.
func kindOf(p api.Prim) (kind, bool) {
	number, single, double := whole{p}, formats[0], formats[1]
	integer := kind{p, number.read, number.write}
	kinds := [...]kind{
		api.Char:   {p, readChar, writeChar},
		api.Int8:   integer,
		api.Int16:  integer,
		api.Int32:  integer,
		api.Int64:  integer,
		api.Uint8:  integer,
		api.Uint16: integer,
		api.Uint32: integer,
		api.Uint64: integer,
		api.Float:  {p, single.read, single.write},
		api.Double: {p, double.read, double.write},
	}
	if p < 0 || int(p) >= len(kinds) {
		return kind{}, false
	}
	return kinds[p], true
}

func (k kind) print(w uint64) (string, api.Errno) {
	if !prim.Fits(k.prim, w) {
		return "", api.ErrRange
	}
	return k.write(w), api.OK
}
