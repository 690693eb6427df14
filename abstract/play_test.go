package abstract_test

import (
	"fmt"
	"math/rand"
	"slices"
	"testing"

	"contra/abstract"
	"contra/api"
	"contra/book"
	"contra/chief"
	"contra/disk"
	"contra/group"
	"contra/item"
	"contra/msg"
	"contra/state"
)

// viewed is a group's view as the chapter's words tell of it, name by name.
func viewed(list []state.State) []api.Item {
	last := len(list) - 1
	var names []api.ID
	for _, s := range list[:last] {
		for _, x := range s.Desk.Book.Items {
			if x.Seller == s.Me {
				names = append(names, x.ID)
			}
		}
	}
	slices.SortFunc(names, book.Compare)
	var v []api.Item
	for _, id := range names {
		x, _ := list[id.Seller].Desk.Book.Get(id)
		y, _ := list[x.Buyer].Desk.Book.Get(id)
		z := x
		z.Cycle = 0
		if (y.State == item.Agreed || y.State == item.Settled) && x.State != item.Settled {
			z.State = item.Agreed
		}
		if y.State == item.Disputed && y.Round == x.Round && x.State == item.Proposed {
			z.State = item.Disputed
		}
		for n := 1; ; n++ {
			run, there := list[last].Chief.Get(n)
			if !there {
				break
			}
			if run.State == chief.Committed && slices.Contains(run.Lines, api.Line{ID: id, Buyer: x.Buyer, Amount: x.Amount}) {
				z.State, z.Cycle = item.Settled, n
			}
		}
		v = append(v, z)
	}
	return v
}

// player is a group to which things happen at random, and what was counted, so that the play is seen to say something.
type player struct {
	g      *group.Group
	r      *rand.Rand
	v      abstract.View
	counts map[string]int
}

// order has all entities expect something for most items that there may be.
func (p *player) order(t *testing.T) {
	t.Helper()
	for buyer := range p.g.N() {
		for seller := range p.g.N() {
			for number := 1; number <= 9; number++ {
				p.step(t, group.Act{Kind: group.Client, Node: buyer, Msg: api.Msg{Kind: msg.Order, ID: name(seller, number), Amount: 3}})
			}
		}
	}
}

// client is something that a client says, which may be wrong.
func (p *player) client() group.Act {
	n := p.g.N()
	at := p.r.Intn(n)
	m := api.Msg{ID: name(at, 1+p.r.Intn(14)), Amount: int64(1 + p.r.Intn(5))}
	switch p.r.Intn(15) {
	case 0, 1, 2:
		m.Kind, m.Buyer, m.Currency = msg.Issue, p.r.Intn(n), p.r.Intn(2)
	case 3, 4, 5, 6, 7, 8:
		m.Kind, at = msg.Order, p.r.Intn(n)
	case 9, 10:
		m.Kind = msg.Adjust
		for _, x := range p.v {
			if x.State == item.Disputed {
				m.ID, at = x.ID, x.Seller
			}
		}
	case 11:
		m.Kind = msg.Withdraw
	case 12:
		m.Kind, m.Buyer, m.Cycle, at = p.r.Intn(18), p.r.Intn(n), p.r.Intn(4), p.r.Intn(n+2)
	default:
		m, at = api.Msg{Kind: msg.Start, Currency: p.r.Intn(2)}, n
	}
	return group.Act{Kind: group.Client, Node: at, Msg: m}
}

// act is something that may happen.
func (p *player) act() group.Act {
	a := group.Act{Node: p.r.Intn(p.g.N() + 1)}
	if many := p.g.Flights(); many > 0 && p.r.Intn(3) == 0 {
		a.I = p.r.Intn(many)
	}
	switch x := p.r.Intn(60); {
	case x < 9:
		return p.client()
	case x < 17:
		a.Kind = group.Tick
	case x < 46 && p.g.Flights() < 150:
		a.Kind = group.Deliver
	case x < 49 || p.g.Flights() >= 150:
		a.Kind = group.Lose
	case x < 52:
		a.Kind = group.Double
	case x < 53:
		a.Kind, a.I, a.Turn = group.Crash, p.r.Intn(9), byte(x)
	case x < 54:
		a.Kind, a.I = group.Fuse, p.r.Intn(200)
	case x < 59:
		a.Kind = group.Restart
		for i := range p.g.N() + 1 {
			if !p.g.Up(i) {
				a.Node = i
			}
		}
	default:
		a.Kind = group.Compact
	}
	return a
}

// round has all happen that a calm round is, act by act.
func (p *player) round(t *testing.T) {
	t.Helper()
	for i := range p.g.N() + 1 {
		p.step(t, group.Act{Kind: group.Restart, Node: i})
		p.step(t, group.Act{Kind: group.Tick, Node: i})
	}
	for range p.g.Flights() {
		p.step(t, group.Act{Kind: group.Deliver})
	}
}

// step has something happen: the view takes one step, or stays, and all nodes are behind it.
func (p *player) step(t *testing.T, a group.Act) {
	t.Helper()
	e := p.g.Do(a)
	list := p.g.States()
	was, now := p.v, abstract.Of(list)
	p.v = now
	if want := viewed(list); !slices.Equal(now, want) {
		t.Errorf("behind %+v the view is %+v, want %+v", a, now, want)
	}
	if f := abstract.Step(was, now); f != api.OK {
		t.Errorf("behind %+v the view is %+v, was %+v: %v", a, now, was, f)
	}
	may := e == api.OK && (a.Kind == group.Client || a.Kind == group.Deliver || a.Kind == group.Tick)
	if !may && !slices.Equal(was, now) {
		t.Errorf("%+v, %v: the view is %+v, was %+v", a, e, now, was)
	}
	for _, s := range list {
		if !abstract.Behind(s, now) {
			t.Errorf("behind %+v %d isn't behind %+v", a, s.Me, now)
		}
	}
	p.count(a, e, was, now)
}

// count tells what has happened to the view, and by what act.
func (p *player) count(a group.Act, e api.Errno, was, now abstract.View) {
	if e != api.OK {
		p.counts["refused"]++
	}
	if slices.Equal(was, now) {
		p.counts["stays"]++
		return
	}
	p.counts[fmt.Sprint("by ", a.Kind)]++
	settled := 0
	for _, y := range now {
		x, found := was.Get(y.ID)
		switch {
		case x == y:
		case !found:
			p.counts["new"]++
		default:
			p.counts[fmt.Sprint("from ", x.State, " to ", y.State)]++
		}
		if x != y && y.State == item.Settled {
			settled++
		}
	}
	if settled > 1 {
		p.counts["settled together"]++
	}
}

// P23.4, P23.1: whatever happens to a group its view goes step by step.
func TestGroupsStep(t *testing.T) {
	counts := map[string]int{}
	for seed := range int64(50) {
		n, room := 1+int(seed%5), disk.MaxRoom
		if seed%4 == 3 {
			room = 900 // some have no room in the end
		}
		g, e := group.New(n, 1, room)
		if e != api.OK {
			t.Fatal(e)
		}
		p := &player{g: g, r: rand.New(rand.NewSource(seed)), counts: counts}
		p.order(t)
		for i := range 700 {
			p.step(t, p.act())
			if i%60 == 59 {
				for range p.r.Intn(8) {
					p.round(t)
				}
			}
			if t.Failed() {
				t.Fatalf("seed %d", seed)
			}
		}
	}
	for _, what := range []string{
		"refused", "stays", "new", "from 1 to 2", "from 1 to 3", "from 2 to 1", "from 2 to 4", "from 3 to 5", "settled together",
		fmt.Sprint("by ", group.Client), fmt.Sprint("by ", group.Deliver), fmt.Sprint("by ", group.Tick),
	} {
		if counts[what] < 20 { // else the play says little
			t.Errorf("%s: %v", what, counts)
		}
	}
}

// P23.4: calm rounds, too, are nothing but acts: behind many of them the view has come no way back.
func TestCalmGoesOn(t *testing.T) {
	g, e := group.New(3, 5, disk.MaxRoom)
	if e != api.OK {
		t.Fatal(e)
	}
	for number := 1; number <= 4; number++ {
		for seller := range 3 {
			buyer, id := (seller+1)%3, name(seller, number)
			if number%2 == 0 {
				g.Do(group.Act{Kind: group.Client, Node: buyer, Msg: api.Msg{Kind: msg.Order, ID: id, Amount: 9}})
			}
			g.Do(group.Act{Kind: group.Client, Node: seller, Msg: api.Msg{Kind: msg.Issue, ID: id, Buyer: buyer, Amount: 9}})
		}
	}
	g.Do(group.Act{Kind: group.Client, Node: 3, Msg: api.Msg{Kind: msg.Start}})
	was := abstract.Of(g.States())
	for range 40 {
		if e := g.Calm(1); e != api.OK {
			t.Fatal(e)
		}
		now := abstract.Of(g.States())
		for _, x := range was {
			if y, found := now.Get(x.ID); !found || item.Rank(y) < item.Rank(x) {
				t.Fatalf("%+v, was %+v", y, x)
			}
		}
		was = now
	}
	for _, x := range was {
		want := item.Cancelled
		if x.Number%2 == 0 {
			want = item.Agreed
		}
		if x.State != want && (want != item.Agreed || x.State != item.Settled) {
			t.Errorf("%+v", x)
		}
	}
}
