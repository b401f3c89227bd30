package ir

import (
	"stencil/api"
	"stencil/prim"
)

func isBetween(n, low, high int) bool { return low <= n && n <= high }

func isNumber(p api.Prim) bool { return p == api.Uint8 || p == api.Uint16 || p == api.Uint32 }

// liesIn asks by a difference, since a sum might wrap.
func liesIn(s api.Spot, size int) bool {
	return isNumber(s.Prim) && s.Offset >= 0 && s.Offset <= size-prim.Size(s.Prim)
}

// areSpots tells whether spots lie in so many bytes, and apart.
func areSpots(size int, spots ...api.Spot) bool {
	for i, s := range spots {
		if !liesIn(s, size) {
			return false
		}
		for _, ahead := range spots[:i] {
			if meet(s, ahead) {
				return false
			}
		}
	}
	return true
}

// meet tells of two spots that lie in some bytes whether one of these is both's.
func meet(s, t api.Spot) bool {
	return s.Offset < t.Offset+prim.Size(t.Prim) && t.Offset < s.Offset+prim.Size(s.Prim)
}

// canTell is asked of numbers that aren't below 0.
func canTell(s api.Spot, n int) bool { return uint64(n) <= prim.Max(s.Prim) }

// isHeaded tells whether all that stands ahead of a form's tokens is right.
func isHeaded(f *api.Form) bool {
	h := f.Head
	return (f.Order == api.Little || f.Order == api.Big) &&
		isBetween(f.Schema, 0, api.MaxID) && isBetween(f.Version, 0, api.MaxVersion) &&
		isBetween(h.Size, 1, api.MaxBlock) && areSpots(h.Size, h.Block, h.Template, h.Schema, h.Version) &&
		canTell(h.Schema, f.Schema) && canTell(h.Version, f.Version)
}
