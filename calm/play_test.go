package calm_test

import (
	"fmt"
	"math/big"
	"math/rand"
	"testing"

	"contra/abstract"
	"contra/api"
	"contra/book"
	"contra/calm"
	"contra/chief"
	"contra/elim"
	"contra/group"
	"contra/item"
	"contra/msg"
	"contra/net"
	"contra/state"
	"contra/vote"
)

// atRest says whether a group is at rest, as the chapter's words tell of it.
func atRest(list []state.State) bool {
	if len(list) == 0 {
		return true
	}
	last := len(list) - 1
	return itemsAtRest(list[:last], abstract.Of(list)) && cyclesAtRest(list[:last], list[last].Chief) && allEven(list[:last])
}

func itemsAtRest(list []state.State, v abstract.View) bool {
	for _, s := range list {
		for _, x := range s.Desk.Book.Items {
			if x.State != item.Agreed && x.State != item.Cancelled && x.State != item.Settled {
				return false
			}
			z, there := v.Get(x.ID)
			if !there || z.State != x.State || z.Amount != x.Amount || x.Buyer >= len(list) {
				return false
			}
			a, _ := list[x.Seller].Desk.Book.Get(x.ID)
			b, _ := list[x.Buyer].Desk.Book.Get(x.ID)
			if a != x || b != x {
				return false
			}
		}
	}
	return true
}

func cyclesAtRest(list []state.State, c chief.Chief) bool {
	for _, run := range c.Runs {
		if run.State != chief.Committed && run.State != chief.Aborted {
			return false
		}
	}
	for _, s := range list {
		if len(s.Parts.Waits()) > 0 {
			return false
		}
		for n := 1; n <= len(c.Runs)+8; n++ { // also what the coordinator doesn't have
			run, _ := c.Get(n)
			part, _ := s.Parts.Get(n)
			if (part.State == vote.Done) != (run.State == chief.Committed) {
				return false
			}
		}
	}
	return true
}

func allEven(list []state.State) bool {
	for currency := range api.MaxCurrency {
		together := new(big.Int)
		for i, s := range list {
			for j, u := range list {
				if p, e := elim.Look(s.Desk.Book, u.Desk.Book, currency); i != j && (e != api.OK || !p.Alike) {
					return false
				}
			}
			open := hasOpen(s.Desk.Book, currency)
			if !open.IsInt64() {
				return false
			}
			together.Add(together, open)
		}
		if together.Sign() != 0 {
			return false
		}
	}
	return true
}

// hasOpen is what an entity has to be paid of a currency.
func hasOpen(b book.Book, currency int) *big.Int {
	sum := new(big.Int)
	for _, x := range b.Items {
		switch {
		case x.State != item.Agreed || x.Currency != currency:
		case x.Seller == b.Me:
			sum.Add(sum, big.NewInt(x.Amount))
		default:
			sum.Sub(sum, big.NewInt(x.Amount))
		}
	}
	return sum
}

// comesToRest says that a group has come to rest behind as many calm rounds as Bound tells, and that it stays so.
func comesToRest(t *testing.T, g *group.Group) {
	t.Helper()
	if !calm.Room(g.States()) {
		t.Fatal("there is no room for what is said")
	}
	rounds(t, g, calm.Bound(g.States()))
	for i := range 25 {
		if list := g.States(); !calm.Rest(list) || !atRest(list) || calm.Bound(list) != 39 {
			t.Fatalf("%d rounds later: Rest %v, by the words %v, Bound %d", i, calm.Rest(list), atRest(list), calm.Bound(list))
		}
		rounds(t, g, 1)
	}
}

// randomly has things happen to a group at random, and holds Rest against the words now and then.
func randomly(t *testing.T, g *group.Group, r *rand.Rand, many int, counts map[bool]int) {
	t.Helper()
	n := g.N()
	for i := range many {
		a := group.Act{Kind: group.Deliver, Node: r.Intn(n + 1)}
		if r.Intn(4) == 0 {
			a.I = r.Intn(g.Flights() + 1)
		}
		switch x := r.Intn(50); {
		case x < 9:
			a = something(n, r)
		case x < 15:
			a.Kind = group.Tick
		case x < 18 || g.Flights() > 500:
			a.Kind = group.Lose
		case x < 20:
			a.Kind = group.Double
		case x < 22:
			a.Kind = []int{group.Crash, group.Compact}[x%2]
		case x < 24:
			a.Kind, a.I = group.Fuse, r.Intn(300)
		case x < 27:
			a.Kind = group.Restart
		}
		g.Do(a)
		if i%90 == 0 {
			g.Calm(r.Intn(6))
		}
		if i%10 == 0 {
			got := calm.Rest(g.States())
			if got != atRest(g.States()) {
				t.Fatalf("Rest: %v", got)
			}
			counts[got]++
		}
	}
}

// something is what a client may say.
func something(n int, r *rand.Rand) group.Act {
	seller, buyer, number := r.Intn(n), r.Intn(n), 1+r.Intn(30)
	switch r.Intn(9) {
	case 0, 1, 2:
		return sells(seller, number, buyer, r.Intn(3))
	case 3, 4, 5:
		return expects(buyer, seller, number)
	case 6:
		return adjusts(seller, number, int64(60+r.Intn(20)))
	case 7:
		return says(seller, api.Msg{Kind: msg.Withdraw, ID: name(seller, number)})
	}
	return starts(n, r.Intn(3))
}

// expectMuch has all entities expect half of what there may be.
func expectMuch(t *testing.T, g *group.Group) {
	t.Helper()
	for buyer := range g.N() {
		for seller := range g.N() {
			for number := 1; number <= 15 && buyer != seller; number++ {
				does(t, g, expects(buyer, seller, number))
			}
		}
	}
}

// P24.3, P24.1: whatever happens to a group it comes to rest.
func TestGroupsRest(t *testing.T) {
	counts := map[bool]int{}
	ends := map[int]int{}
	for seed := range int64(60) {
		r := rand.New(rand.NewSource(seed))
		g := made(t, 1+int(seed)%api.MaxEntity)
		expectMuch(t, g)
		for range 3 { // it may go on behind that
			randomly(t, g, r, 50+r.Intn(500), counts)
			comesToRest(t, g)
			if t.Failed() {
				t.Fatalf("seed %d", seed)
			}
		}
		for _, x := range abstract.Of(g.States()) {
			ends[x.State]++
		}
	}
	if counts[true] < 100 || counts[false] < 100 || ends[item.Agreed] < 50 || ends[item.Cancelled] < 50 || ends[item.Settled] < 50 {
		t.Errorf("%v, %v", counts, ends) // else the play says little
	}
}

// P24.3: who has very much to give up does that one by one.
func TestManyRest(t *testing.T) {
	for _, known := range []bool{false, true} {
		g := made(t, 3)
		for number := 1; number <= 300; number++ {
			does(t, g, sells(0, number, 1+number%2, number%8))
		}
		if known {
			speaks(t, g, 0, 1, 2)
		}
		if b := calm.Bound(g.States()); b != 39+2*300 {
			t.Errorf("Bound %d", b)
		}
		rounds(t, g, 200)
		rests(t, "not all is given up", g.States(), false)
		comesToRest(t, g)
	}
}

// P24.3: cycles in all currencies, with more items than can be offered at once, and nodes that are down at any time.
func TestCyclesRest(t *testing.T) {
	for down := range 4 {
		for late := range 12 {
			g := made(t, 3)
			for number := 1; number <= 200; number++ {
				does(t, g, expects(1, 0, number), sells(0, number, 1, number%2))
			}
			rounds(t, g, 3)
			for currency := range api.MaxCurrency {
				does(t, g, starts(3, currency))
			}
			rounds(t, g, late/3)
			speaks(t, g, []int{3, 0, 1, 2}[:late%3+1]...)
			does(t, g, at(group.Crash, down))
			for range late {
				for i := range 4 {
					if i != down {
						speaks(t, g, i)
					}
				}
			}
			comesToRest(t, g)
		}
	}
}

// P24.3: crashes that are due, and what is on its way, do no harm: there may be as much as there can be.
func TestFullNetRests(t *testing.T) {
	g := made(t, 4)
	for number := 1; number <= 20; number++ {
		does(t, g, sells(0, number, 1, 0), expects(2, 1, number), sells(1, number, 2, 0))
	}
	does(t, g, starts(4, 0))
	for i := range 5 {
		does(t, g, at(group.Tick, i))
	}
	for i := 0; g.Flights() < net.MaxFlights; i++ {
		does(t, g, group.Act{Kind: group.Double, I: i})
	}
	for i := range 5 {
		does(t, g, group.Act{Kind: group.Fuse, Node: i, I: 10 * i})
	}
	does(t, g, at(group.Crash, 4))
	comesToRest(t, g)
}

// Example 10 of the whole: an item whose buyer expects nothing is given up by its seller, when it is calm.
func TestExample(t *testing.T) {
	g := made(t, 2)
	does(t, g, sells(0, 1, 1, 0))
	comesToRest(t, g)
	if v := abstract.Of(g.States()); len(v) != 1 || v[0].State != item.Cancelled {
		t.Error(fmt.Sprint(v))
	}
}
