package prim

import "stencil/api"

// order is an order of bytes.
type order struct{ highestFirst bool }

// shift is how many bits lie below the byte at place i of a value of size bytes.
func (o order) shift(i, size int) int {
	if o.highestFirst {
		i = size - 1 - i
	}
	return 8 * i
}

// shiftOf answers nil of what is no order.
func shiftOf(e api.Endian) func(i, size int) int {
	switch e {
	case api.Little:
		return order{highestFirst: false}.shift
	case api.Big:
		return order{highestFirst: true}.shift
	}
	return nil
}
