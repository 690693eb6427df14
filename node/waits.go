package node

import (
	"maps"

	"contra/api"
	"contra/msg"
)

// wait is something that a node waits for: a cycle, or else an item in a round.
type wait struct {
	cycle int
	id    api.ID
	round int
}

// due is when that is due, and by which of all sets: of one time the earlier one is ahead.
// It stands beside what is waited for, and not on the clock: a node may wait for more than a clock has room for.
type due struct{ at, set int }

// waitOf: what it is that a message says is due.
func waitOf(m api.Msg) wait { return wait{m.Cycle, m.ID, m.Round} }

// message: the message that says that it is due.
func (w wait) message() api.Msg {
	return api.Msg{Kind: msg.Due, ID: w.id, Cycle: w.cycle, Round: w.round}
}

// patience: how many ticks it is waited for.
func (w wait) patience() int {
	if w.cycle != 0 {
		return Cycles
	}
	return Patience
}

// before: does the one come ahead of the other?
func (d due) before(other due) bool {
	return d.at < other.at || d.at == other.at && d.set < other.set
}

// look looks what the node waits for: what it waited for till now is due as it was, what is new a while later, all else isn't any more.
func (x *Node) look() {
	old := maps.Clone(x.waits)
	clear(x.waits)
	for _, m := range x.state.Dues() {
		w := waitOf(m)
		if d, found := old[w]; found {
			x.waits[w] = d
		} else {
			x.set(w, w.patience())
		}
	}
}

// set has something be due so many ticks later.
func (x *Node) set(w wait, later int) {
	x.sets++
	x.waits[w] = due{x.clock.Now() + later, x.sets}
}

// first: what is due first, if anything is by that time.
func (x *Node) first(now int) (first wait, found bool) {
	least := due{at: now + 1} // ahead of all that are due later
	for w, d := range x.waits {
		if d.before(least) {
			first, least, found = w, d, true
		}
	}
	return first, found
}
