package image

import (
	"bytes"
	"slices"

	"contra/api"
	"contra/chief"
	"contra/cycle"
	"contra/item"
	"contra/match"
	"contra/msg"
	"contra/state"
	"contra/vote"
)

// player tells a node (now) what another one (want) must have been told to be as it is. If no node comes to be so, now is otherwise at the end, and how it came to that counts for nothing.
type player struct{ now, want state.State }

// play: a new node, as it is once it was told all that.
func play(s, want state.State) state.State {
	p := player{s, want}
	if s.Coordinates() {
		p.coordinate()
	} else {
		p.trade()
	}
	p.hear()
	return p.now
}

// tell tells the node something; what it can't do it doesn't.
func (p *player) tell(from int, m api.Msg) {
	x := state.Event{From: from, Msg: m}
	if from != match.Client {
		x.Number = p.now.Links.Peers[from].Heard + 1
	}
	if next, e := p.now.Apply(x); e == api.OK {
		p.now = next
	}
}

// said: how many things the node has said to another one.
func (p *player) said(to int) int { return len(p.now.Links.Peers[to].Said) }

// hear has the node have heard as much as it must have: of what it couldn't do that is all that is left.
func (p *player) hear() {
	for i, x := range p.want.Links.Peers {
		if heard := &p.now.Links.Peers[i].Heard; i != p.now.Me {
			*heard = max(*heard, x.Heard)
		}
	}
}

// trade tells an entity all. A cycle takes all items that are free: so that none is free too early, what is said to the coordinator goes first, and of all else only what that can't do without.
func (p *player) trade() {
	for to, x := range slices.Backward(p.want.Links.Peers) {
		if !p.say(to, len(x.Said)) {
			return
		}
	}
	for _, x := range p.want.Desk.Book.Items {
		p.answer(x)
	}
	for _, x := range p.want.Parts.List {
		if decided(x) {
			p.decide(x.Cycle)
		}
	}
	for _, x := range p.want.Desk.Book.Orders {
		p.tell(match.Client, api.Msg{Kind: msg.Order, ID: x.ID, Amount: x.Amount})
	}
}

// say has the entity say what it has to say to another node, up to so many things in all; does it?
func (p *player) say(to, many int) bool {
	want := p.want.Links.Peers[to].Said
	for n := p.said(to); n < many; n++ {
		p.cause(to, want[n])
		if p.said(to) != n+1 || !alike(p.now.Links.Peers[to].Said[n], want[n]) {
			return false
		}
	}
	return true
}

// cause tells the entity that at which it says m to a node.
func (p *player) cause(to int, m api.Msg) {
	switch m.Kind {
	case msg.Propose:
		if m.Round == 0 {
			p.tell(match.Client, as(msg.Issue, m))
			return
		}
		old := m
		old.Round--
		p.tell(to, as(msg.Dispute, old))
		p.tell(match.Client, as(msg.Adjust, m))
	case msg.Cancel:
		p.tell(to, as(msg.Dispute, m))
		p.tell(match.Client, as(msg.Withdraw, m)) // in the last round it is given up by now
	case msg.Confirm:
		p.tell(match.Client, as(msg.Order, m))
		p.tell(to, as(msg.Propose, m))
	case msg.Dispute: // nothing is expected for it so far
		p.tell(to, as(msg.Propose, m))
	default:
		if to == p.now.N {
			p.causeOfCycle(m)
		}
	}
}

// causeOfCycle likewise, where m is about a cycle.
func (p *player) causeOfCycle(m api.Msg) {
	part, _ := p.want.Parts.Get(m.Cycle)
	switch m.Kind {
	case msg.Offer:
		for _, x := range m.Lines {
			p.free(x.ID)
		}
		p.tell(p.now.N, api.Msg{Kind: msg.Ask, Cycle: m.Cycle, Currency: part.Currency})
	case msg.Vote:
		prepare := api.Msg{Kind: msg.Prepare, Cycle: m.Cycle} // to which it says no, as there are no nets
		if m.Yes {
			prepare.Lines = part.Lines
			prepare.Nets, _ = cycle.Nets(p.now.N, part.Lines)
		}
		p.tell(p.now.N, prepare)
	case msg.Query:
		p.tell(match.Client, api.Msg{Kind: msg.Due, Cycle: m.Cycle})
	}
}

// free has the entity have an item as agreed, and in no cycle.
func (p *player) free(id api.ID) {
	x, found := p.want.Desk.Book.Get(id)
	other := p.other(x)
	if !found || other >= p.now.N { // what the coordinator sells nobody takes
		return
	}
	if y, _ := p.now.Desk.Book.Get(id); !taken(y) {
		last := 0
		for i, m := range p.want.Links.Peers[other].Said {
			if m.ID == id {
				last = i + 1
			}
		}
		p.say(other, last)
		p.answer(x)
	}
	if y, _ := p.now.Desk.Book.Get(id); y.Cycle != 0 {
		p.decide(y.Cycle)
	}
}

// answer has an item's other party say what it must have said, once nothing more is said to it.
func (p *player) answer(x api.Item) {
	y, found := p.now.Desk.Book.Get(x.ID)
	if !found {
		return
	}
	switch {
	case y.State == item.Proposed && taken(x):
		p.tell(p.other(y), msg.About(msg.Confirm, y))
	case y.State == item.Proposed && x.State == item.Disputed:
		p.tell(p.other(y), msg.About(msg.Dispute, y))
	case y.State == item.Disputed && x.State == item.Cancelled:
		p.tell(p.other(y), msg.About(msg.Cancel, y))
	}
}

// decide tells the entity what is decided of a cycle, unless it knows.
func (p *player) decide(n int) {
	part, _ := p.want.Parts.Get(n)
	if x, _ := p.now.Parts.Get(n); !decided(x) {
		p.tell(p.now.N, api.Msg{Kind: msg.Decide, Cycle: n, Yes: part.State == vote.Done})
	}
}

// other: the other party of an item.
func (p *player) other(x api.Item) int {
	if x.Seller == p.now.Me {
		return x.Buyer
	}
	return x.Seller
}

// coordinate tells the coordinator all. But for what one has asked all entities were told the same: so the first one's tells what came next.
func (p *player) coordinate() {
	want := p.want.Links.Peers[0].Said
	for p.queries(); p.said(0) < len(want); p.queries() {
		n := p.said(0)
		p.causeOfAll(want[n])
		if p.said(0) == n {
			return
		}
	}
	for i := range p.now.Chief.Runs {
		p.offers(i + 1)
		p.votes(i + 1)
	}
}

// causeOfAll tells the coordinator that at which it says m to all.
func (p *player) causeOfAll(m api.Msg) {
	switch m.Kind {
	case msg.Ask:
		p.tell(match.Client, as(msg.Start, m))
	case msg.Prepare:
		p.offers(m.Cycle)
	case msg.Decide:
		p.offers(m.Cycle)
		p.votes(m.Cycle)
		p.tell(match.Client, api.Msg{Kind: msg.Due, Cycle: m.Cycle}) // unless it is decided by now
	}
}

// queries has entities ask what is decided, as far as they were told that next: what is decided by now was told to all before.
func (p *player) queries() {
	for to := range p.now.N {
		want := p.want.Links.Peers[to].Said
		for _, m := range want[min(p.said(to), len(want)):] {
			if m.Kind != msg.Decide || !p.ended(m.Cycle) {
				break
			}
			p.tell(to, as(msg.Query, m))
		}
	}
}

// ended: has the coordinator ended a cycle?
func (p *player) ended(n int) bool {
	if n < 1 || n > len(p.now.Chief.Runs) {
		return false
	}
	x := p.now.Chief.Runs[n-1].State
	return x == chief.Committed || x == chief.Aborted
}

// offers has all entities offer in a cycle what they must have offered, unless they have.
func (p *player) offers(n int) {
	for who, x := range p.heard(n) {
		if x.Offered && !p.now.Chief.Runs[n-1].From[who].Offered {
			p.tell(who, api.Msg{Kind: msg.Offer, Cycle: n, Lines: x.Lines})
		}
	}
}

// votes has them vote, likewise. Who said no isn't kept: if the cycle is aborted, it may as well have been the last one.
func (p *player) votes(n int) {
	list := p.heard(n)
	last := -1
	for who, x := range list {
		if x.Voted {
			last = who
		}
	}
	for who, x := range list {
		if x.Voted && !p.now.Chief.Runs[n-1].From[who].Voted {
			yes := who != last || p.want.Chief.Runs[n-1].State != chief.Aborted
			p.tell(who, api.Msg{Kind: msg.Vote, Cycle: n, Yes: yes})
		}
	}
}

// heard: what each entity must have said in a cycle; nothing, if there is no such cycle, or not of as many.
func (p *player) heard(n int) []chief.Heard {
	if n < 1 || n > min(len(p.now.Chief.Runs), len(p.want.Chief.Runs)) || len(p.want.Chief.Runs[n-1].From) != p.now.N {
		return nil
	}
	return p.want.Chief.Runs[n-1].From
}

// as: the same message as one of another kind.
func as(kind int, m api.Msg) api.Msg {
	m.Kind = kind
	return m
}

// alike: are two messages written alike?
func alike(m, n api.Msg) bool {
	var v, w writer
	writeMsg(&v, m)
	writeMsg(&w, n)
	return bytes.Equal(v.b, w.b)
}

// taken: has the buyer of an item taken it?
func taken(x api.Item) bool { return x.State == item.Agreed || x.State == item.Settled }

// decided: is it known whether a cycle is done?
func decided(x vote.Part) bool { return x.State == vote.Done || x.State == vote.Undone }
