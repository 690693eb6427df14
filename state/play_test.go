package state_test

import (
	"math/rand"
	"testing"

	"contra/api"
	"contra/book"
	"contra/chief"
	"contra/elim"
	"contra/item"
	"contra/match"
	"contra/msg"
	"contra/state"
	"contra/vote"
)

// company is a group of nodes, the coordinator last, over a net that loses, doubles and turns about what is said.
type company []state.State

// founded is a group of so many entities.
func founded(t *testing.T, n int) company {
	t.Helper()
	var c company
	for me := range n + 1 {
		s, e := state.New(me, n, 2)
		if e != api.OK {
			t.Fatalf("New: %v", e)
		}
		c = append(c, s)
	}
	return c
}

// client has a node be told something by a client or a clock.
func (c company) client(t *testing.T, i int, m api.Msg) api.Errno {
	t.Helper()
	next, e := holds(t, c[i], asked(m))
	if e == api.OK {
		c[i] = next
	}
	return e
}

// hear has a node be told one of the things that another one has said to it, from the first one on, whether it is its turn or not.
func (c company) hear(t *testing.T, to, from, number int) api.Errno {
	t.Helper()
	next, e := holds(t, c[to], state.Event{From: from, Number: number, Msg: c[from].Links.Peers[to].Said[number-1]})
	if e == api.OK {
		c[to] = next
	}
	return e
}

// step has something happen, at random; the answers' errors are counted.
func (c company) step(t *testing.T, r *rand.Rand, counts map[api.Errno]int) {
	t.Helper()
	n := len(c) - 1
	i := r.Intn(n + 1)
	m := api.Msg{ID: name(r.Intn(n), 1+r.Intn(6)), Buyer: r.Intn(n), Currency: r.Intn(2), Amount: int64(1 + r.Intn(4))}
	switch r.Intn(80) {
	case 0, 1, 2:
		m.Kind, m.ID.Seller = msg.Issue, i
	case 3, 4, 5, 6:
		m.Kind = msg.Order
	case 7:
		m.Kind, m.ID.Seller = msg.Adjust, i
	case 8:
		m.Kind, m.ID.Seller, i = msg.Start, 0, n
	case 9:
		list := c[i].Dues()
		if len(list) == 0 {
			return
		}
		m = list[r.Intn(len(list))]
	default:
		from := r.Intn(n + 1)
		if said := len(c[from].Links.Peers[i].Said); said > 0 {
			number := 1 + r.Intn(said)
			if r.Intn(4) > 0 {
				number = min(said, c[i].Links.Peers[from].Heard+1)
			}
			counts[c.hear(t, i, from, number)]++
		}
		return
	}
	counts[c.client(t, i, m)]++
}

// rest has all come that was said, and all wait long enough, until nobody waits for anything.
func (c company) rest(t *testing.T) {
	t.Helper()
	for range 100 {
		calm := true
		for to := range c {
			for from := range c {
				for number := c[to].Links.Peers[from].Heard + 1; number <= len(c[from].Links.Peers[to].Said); number++ {
					c.hear(t, to, from, number)
					calm = false
				}
			}
		}
		for i := range c {
			for _, m := range c[i].Dues() {
				c.client(t, i, m)
				calm = false
			}
		}
		if calm {
			return
		}
	}
	t.Error("no rest")
}

// agrees says that what one has as agreed the other one has, too, and that there is one decision of each cycle.
func (c company) agrees(t *testing.T) {
	t.Helper()
	n := len(c) - 1
	for _, s := range c[:n] {
		for _, x := range s.Desk.Book.Items {
			if x.Seller == s.Me && x.State == item.Agreed {
				y, _ := c[x.Buyer].Desk.Book.Get(x.ID)
				if y.State != item.Agreed && y.State != item.Settled || msg.Line(x) != msg.Line(y) || x.Currency != y.Currency || x.Round != y.Round {
					t.Errorf("%d has %+v, %d has %+v", s.Me, x, x.Buyer, y)
				}
			}
		}
		for _, p := range s.Parts.List {
			x, _ := c[n].Chief.Get(p.Cycle)
			if p.State == vote.Done && x.State != chief.Committed || p.State == vote.Undone && x.State != chief.Aborted {
				t.Errorf("%d has %+v, the coordinator %+v", s.Me, p, x)
			}
		}
	}
}

// P19.1 to P19.4: whatever happens each node is as the chapter's words tell, and a group comes to rest, with all the same at both parties.
func TestGroupsAgree(t *testing.T) {
	counts, states := map[api.Errno]int{}, map[int]int{}
	for seed := range int64(60) {
		r := rand.New(rand.NewSource(seed))
		c := founded(t, 2+r.Intn(3))
		for range 800 {
			c.step(t, r, counts)
			c.agrees(t)
		}
		c.rest(t)
		c.agrees(t)
		var books []book.Book
		for _, s := range c[:len(c)-1] {
			books = append(books, s.Desk.Book)
			for _, x := range s.Desk.Book.Items {
				states[x.State]++
				other := x.Seller + x.Buyer - s.Me
				if y, _ := c[other].Desk.Book.Get(x.ID); x != y || x.State < item.Agreed {
					t.Errorf("at rest %d has %+v, %d has %+v", s.Me, x, other, y)
				}
			}
		}
		if !elim.Even(0, books...) || !elim.Even(1, books...) {
			t.Error("at rest the books aren't even")
		}
		if t.Failed() {
			t.Fatalf("seed %d", seed)
		}
	}
	for _, e := range []api.Errno{api.OK, api.ErrTwice, api.ErrMissing, api.ErrState} {
		if counts[e] < 100 { // else the play says little
			t.Errorf("%v came %d times", e, counts[e])
		}
	}
	if states[item.Agreed] < 50 || states[item.Cancelled] < 50 || states[item.Settled] < 50 {
		t.Errorf("states %v", states)
	}
}

// P19.2, P2: what a node is follows from what it was told, and from nothing else.
func TestTheSameIsTheSame(t *testing.T) {
	for seed := range int64(40) {
		r := rand.New(rand.NewSource(seed))
		one := fresh(t, r.Intn(group+1))
		two := fresh(t, one.Me)
		for range 300 {
			from := match.Client + r.Intn(group+2)
			m := api.Msg{Kind: r.Intn(18), ID: name(r.Intn(3), 1+r.Intn(4)), Buyer: r.Intn(3), Cycle: r.Intn(6), Amount: int64(1 + r.Intn(9)), Yes: r.Intn(2) == 0}
			if r.Intn(2) == 0 {
				m.Nets = make([]int64, group)
			}
			x := asked(m)
			if from != match.Client {
				x = next(one, from, m)
			}
			a, e := holds(t, one, x)
			b, f := two.Apply(x)
			if e != f {
				t.Fatalf("seed %d: %v, %v", seed, e, f)
			}
			if e == api.OK {
				one, two = a, b
			}
		}
		same(t, "told the same", one, two)
	}
}
