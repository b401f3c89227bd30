package paths

import "stencil/api"

// What Count is defined for, and what it tells of more.
const (
	greatestN    = 12
	greatestMost = 3
	manyWays     = 1000000000
)

func isMost(most int) bool { return most >= 0 && most <= greatestMost }

// tally counts ways, and keeps what it has found.
type tally struct {
	most  int
	found map[spot]int
}

// spot is all on which the number of ways from a place of a machine hangs.
type spot struct {
	calls  int // that are still to come
	inside int
	come   int
	left   [api.MaxNest]int // 0: of what isn't open, too
	spare  int              // entries that may still be called, as far as so many calls can ask for them
}

func (t *tally) spotOf(m *machine, n int) spot {
	s := spot{calls: n, inside: m.Inside(), come: m.come, spare: min(api.MaxEntries-m.entries, n*t.most)}
	copy(s.left[:], m.Left())
	return s
}

// ways is how many lists of n calls may come, or manyWays.
func (t *tally) ways(m *machine, n int) int {
	if n == 0 {
		return 1
	}
	s := t.spotOf(m, n)
	if ways, ok := t.found[s]; ok {
		return ways
	}
	ways := 0
	// A field leaves the machine where it stands, so that what comes behind is the same for all of them.
	if fields := len(m.fields()); fields > 0 {
		ways = fields * t.ways(m, n-1)
	}
	if c, ok := m.onward(); ok {
		ways += t.waysBehind(m, c, n-1)
	}
	t.found[s] = min(ways, manyWays)
	return t.found[s]
}

// waysBehind are those of n calls behind a call that may come: of a group with each count.
func (t *tally) waysBehind(m *machine, c api.Call, n int) int {
	greatest := 0
	if c.Kind == api.CallGroup {
		greatest = t.most
	}
	ways := 0
	for count := range greatest + 1 {
		c.Count = count
		further := m.copied()
		// There may be too many entries.
		if further.take(c) != api.OK {
			break
		}
		ways += t.ways(further, n)
	}
	return ways
}
