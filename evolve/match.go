package evolve

import (
	"slices"

	"stencil/api"
	"stencil/types"
)

// match holds two schemas against each other: one as it is, and one that is to follow it, as that was at the version of the first.
type match struct {
	was, now           *atlas
	wasRanks, nowRanks []int
	likeness
}

// breaches is all that forbids that b follows a, both of them valid.
func breaches(a, b api.Schema) []api.Breach {
	var out []api.Breach
	if isOther(a, b) {
		out = append(out, api.Breach{Reason: api.ErrOther})
	}
	if b.Version <= a.Version {
		return append(out, api.Breach{Reason: api.ErrOlder})
	}
	m := newMatch(a, schemaAt(b, a.Version))
	return slices.Concat(out, m.changes(), m.additions())
}

// isOther tells whether two schemas' messages can't be those of one schema.
func isOther(a, b api.Schema) bool {
	headA, _ := types.HeadOf(a.Types, a.Header)
	headB, _ := types.HeadOf(b.Types, b.Header)
	return a.Package != b.Package || a.ID != b.ID || a.Order != b.Order || headA != headB
}

func newMatch(was, now api.Schema) *match {
	m := &match{was: newAtlas(was), now: newAtlas(now), likeness: newLikeness(was.Types, now.Types)}
	m.wasRanks, m.nowRanks = m.was.ranks(m.now), m.now.ranks(m.was)
	return m
}

// changes is what has become of the parts that were there.
func (m *match) changes() []api.Breach {
	var out []api.Breach
	asked := comparisons()
	for i, path := range m.was.paths {
		k, known := m.now.places[path]
		if !known {
			out = append(out, api.Breach{Reason: api.ErrGone, Name: path})
			continue
		}
		for _, c := range asked {
			if c.differs(pair{m, i, k}) {
				out = append(out, api.Breach{Reason: c.reason, Name: path})
			}
		}
	}
	return out
}

// additions is the parts that weren't there, and are told as if they had been.
func (m *match) additions() []api.Breach {
	var out []api.Breach
	for _, path := range m.now.paths {
		if !m.was.has(path) {
			out = append(out, api.Breach{Reason: api.ErrNotNew, Name: path})
		}
	}
	return out
}
