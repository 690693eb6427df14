package image_test

import (
	"math/rand"
	"testing"

	"contra/api"
	"contra/cycle"
	"contra/image"
	"contra/item"
	"contra/match"
	"contra/msg"
	"contra/state"
	"contra/vote"
)

// another is some other number below n than me, if there is one.
func another(r *rand.Rand, me, n int) int {
	if n < 2 {
		return me
	}
	return (me + 1 + r.Intn(n-1)) % n
}

// trade is something that an entity may be told about items, at random: mostly such as it can do.
func trade(r *rand.Rand, s state.State) state.Event {
	amount := int64(1 + r.Intn(6))
	if list := s.Desk.Book.Items; len(list) > 0 && r.Intn(3) > 0 {
		x := list[r.Intn(len(list))]
		if r.Intn(2) == 0 { // one that isn't over
			for range 8 {
				if y := list[r.Intn(len(list))]; y.State <= item.Disputed {
					x = y
				}
			}
		}
		m := msg.About(0, x)
		other := x.Buyer
		if x.Buyer == s.Me {
			other = x.Seller
			m.Kind = []int{msg.Propose, msg.Propose, msg.Cancel}[r.Intn(3)]
			if m.Kind == msg.Propose {
				m.Round, m.Amount = m.Round+1, amount
				if r.Intn(3) == 0 {
					return asked(api.Msg{Kind: msg.Order, ID: x.ID, Amount: amount})
				}
			}
			return heard(s, other, m)
		}
		switch m.Kind = []int{msg.Confirm, msg.Dispute, msg.Dispute, msg.Adjust, msg.Adjust, msg.Withdraw, msg.Due}[r.Intn(7)]; m.Kind {
		case msg.Adjust:
			m.Amount = amount
			return asked(m)
		case msg.Withdraw, msg.Due:
			return asked(m)
		}
		return heard(s, other, m)
	}
	number := 1 + r.Intn(12)
	switch r.Intn(3) {
	case 0:
		return asked(api.Msg{Kind: msg.Issue, ID: api.ID{Seller: s.Me, Number: number}, Buyer: another(r, s.Me, s.N), Currency: r.Intn(2), Amount: amount})
	case 1:
		return asked(api.Msg{Kind: msg.Order, ID: api.ID{Seller: another(r, s.Me, s.N), Number: number}, Amount: amount})
	}
	seller := another(r, s.Me, s.N+1) // the coordinator, too
	return heard(s, seller, api.Msg{Kind: msg.Propose, ID: api.ID{Seller: seller, Number: number}, Buyer: s.Me, Currency: r.Intn(2), Amount: amount})
}

// part is something that an entity may be told about cycles, likewise.
func part(r *rand.Rand, s state.State) state.Event {
	list := s.Parts.List
	if len(list) == 0 || r.Intn(6) == 0 {
		return heard(s, s.N, api.Msg{Kind: msg.Ask, Cycle: 1 + r.Intn(40), Currency: r.Intn(2)})
	}
	p := list[r.Intn(len(list))]
	if waits := s.Parts.Waits(); len(waits) > 0 && r.Intn(8) > 0 {
		p, _ = s.Parts.Get(waits[r.Intn(len(waits))])
	}
	m := api.Msg{Cycle: p.Cycle}
	switch r.Intn(4) {
	case 0:
		m.Kind = msg.Due
		return asked(m)
	case 1:
		m.Kind, m.Yes = msg.Decide, r.Intn(2) == 0
		return heard(s, s.N, m)
	}
	m.Kind = msg.Prepare
	for _, x := range s.Desk.Book.Locked(p.Cycle) {
		if r.Intn(3) > 0 {
			m.Lines = append(m.Lines, msg.Line(x))
		}
	}
	if r.Intn(5) > 0 {
		m.Nets, _ = cycle.Nets(s.N, m.Lines)
	}
	return heard(s, s.N, m)
}

// cycles is something that the coordinator may be told, likewise.
func cycles(r *rand.Rand, s state.State) state.Event {
	runs := s.Chief.Runs
	if len(runs) == 0 || r.Intn(12) == 0 {
		return asked(api.Msg{Kind: msg.Start, Currency: r.Intn(3)})
	}
	n := 1 + r.Intn(len(runs))
	if waits := s.Chief.Waits(); len(waits) > 0 && r.Intn(6) > 0 {
		n = waits[r.Intn(len(waits))]
	}
	m, from := api.Msg{Cycle: n}, r.Intn(s.N)
	switch r.Intn(30) {
	case 0:
		m.Kind = msg.Due
		return asked(m)
	case 1, 2, 3, 4:
		m.Kind = msg.Query
		return heard(s, from, m)
	}
	if x := runs[n-1]; x.State == 1 {
		m.Kind = msg.Offer
		for seller := range s.N {
			for number := 1; number <= 3; number++ {
				buyer := (seller + number) % s.N
				if (seller == from || buyer == from) && seller != buyer && r.Intn(4) > 0 {
					m.Lines = append(m.Lines, api.Line{ID: api.ID{Seller: seller, Number: number}, Buyer: buyer, Amount: int64(number)})
				}
			}
		}
		return heard(s, from, m)
	}
	m.Kind, m.Yes = msg.Vote, r.Intn(10) > 0
	return heard(s, from, m)
}

// anything is something that a node may be told, at random.
func anything(r *rand.Rand, s state.State) state.Event {
	switch {
	case r.Intn(40) == 0:
		return heard(s, another(r, s.Me, s.N+1), api.Msg{Kind: r.Intn(18), ID: api.ID{Seller: r.Intn(9), Number: r.Intn(20)}, Buyer: r.Intn(9), Cycle: r.Intn(9), Amount: 7, Lines: []api.Line{{}}})
	case s.Coordinates():
		return cycles(r, s)
	case r.Intn(3) == 0:
		return part(r, s)
	}
	return trade(r, s)
}

// P20.1 to P20.3: whatever a node was told, it is read as it was written, and goes on as it was.
func TestAnyNodeIsRead(t *testing.T) {
	items, parts, runs := map[int]int{}, map[int]int{}, map[int]int{}
	for seed := range int64(400) {
		r := rand.New(rand.NewSource(seed))
		n := 1 + r.Intn(api.MaxEntity)
		s := fresh(t, r.Intn(n), n, int64(r.Intn(3)))
		if r.Intn(3) == 0 {
			s = fresh(t, n, n, 0)
		}
		for i := range 200 {
			if next, e := s.Apply(anything(r, s)); e == api.OK {
				s = next
			}
			if i%20 > 0 {
				continue
			}
			got, other := read(t, written(t, s)), s
			if text(got) != text(s) || !image.Same(got, s) {
				t.Fatalf("seed %d: %s is read as %s", seed, text(s), text(got))
			}
			if i == 100 {
				for range 20 {
					goesOn(t, r, &other, &got)
				}
			}
		}
		for _, x := range s.Desk.Book.Items {
			items[x.State]++
		}
		for _, x := range s.Parts.List {
			parts[x.State]++
		}
		for _, x := range s.Chief.Runs {
			runs[x.State]++
		}
	}
	for _, counts := range []map[int]int{items, parts, runs} {
		for state := 1; state <= 4 || state == 5 && len(counts) > 4; state++ {
			if counts[state] < 50 { // else the play says little
				t.Errorf("items %v, parts %v, runs %v", items, parts, runs)
			}
		}
	}
}

// P20.2: so is a node of which a cycle takes some of its items alone, as they are too many.
func TestNodesOfManyItems(t *testing.T) {
	full := 0
	for seed := range int64(40) {
		r := rand.New(rand.NewSource(seed))
		s := fresh(t, 1, group, 5)
		often := 1 + r.Intn(60)
		for range 600 {
			list := []state.Event{part(r, s)}
			if r.Intn(often) > 0 {
				list = bulk(r, s)
			}
			for _, x := range list {
				if x.From != match.Client {
					x.Number = s.Links.Peers[x.From].Heard + 1
				}
				if next, e := s.Apply(x); e == api.OK {
					s = next
				}
			}
		}
		for _, m := range s.Links.Peers[group].Said {
			if len(m.Lines) == vote.MaxOffer {
				full++
			}
		}
		if got := read(t, written(t, s)); text(got) != text(s) {
			t.Fatalf("seed %d: %s is read as %s", seed, text(s), text(got))
		}
	}
	if full < 30 { // else the play says little
		t.Errorf("%d offers are full", full)
	}
}

// bulk is what has an entity have one item more, mostly as agreed.
func bulk(r *rand.Rand, s state.State) []state.Event {
	seller := r.Intn(s.N)
	m := api.Msg{ID: api.ID{Seller: seller, Number: 1 + r.Intn(1000)}, Buyer: s.Me, Currency: r.Intn(20) / 19, Amount: 5}
	if seller == s.Me {
		m.Kind, m.Buyer = msg.Issue, another(r, s.Me, s.N)
		answer := m
		answer.Kind = []int{msg.Confirm, msg.Confirm, msg.Confirm, msg.Dispute}[r.Intn(4)]
		return []state.Event{asked(m), {From: m.Buyer, Msg: answer}}
	}
	order := m
	order.Kind, m.Kind = msg.Order, msg.Propose
	if r.Intn(8) == 0 {
		order.Amount = 50
	}
	return []state.Event{asked(order), {From: seller, Msg: m}}
}
