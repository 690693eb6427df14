package group_test

import (
	"fmt"
	"math/rand"
	"slices"
	"testing"

	"contra/api"
	"contra/chief"
	"contra/disk"
	"contra/group"
	"contra/item"
	"contra/link"
	"contra/msg"
	"contra/net"
	"contra/node"
	"contra/state"
	"contra/vote"
)

// model is a group as the chapter's words tell of it.
type model struct {
	far   int64
	disks []*disk.Disk
	nodes []*node.Node
	down  []bool
	way   []link.Packet
}

// newModel is a new group's model.
func newModel(t *testing.T, n int, far int64, room int) *model {
	t.Helper()
	y := &model{far: far, down: make([]bool, n+1)}
	for i := range n + 1 {
		d, e := disk.New(room)
		x, f := node.Open(d, i, n, far)
		if e != api.OK || f != api.OK {
			t.Fatalf("New: %v, %v", e, f)
		}
		y.disks, y.nodes = append(y.disks, d), append(y.nodes, x)
	}
	return y
}

// text is all that is seen of the model, as of a group.
func (y *model) text() string {
	var up []bool
	var list []state.State
	for i, x := range y.nodes {
		up, list = append(up, !y.down[i]), append(list, x.State())
	}
	return fmt.Sprintf("%d %d %v %+v", len(y.nodes)-1, len(y.way), up, list)
}

// take takes a packet off its way.
func (y *model) take(i int) link.Packet {
	p := y.way[i]
	y.way = slices.Delete(y.way, i, i+1)
	return p
}

func (y *model) deliver(i int) api.Errno {
	p := y.take(i)
	if y.down[p.To] {
		return api.ErrDown
	}
	e := y.nodes[p.To].Receive(p)
	y.down[p.To] = y.disks[p.To].Down()
	return e
}

func (y *model) tick(i int) api.Errno {
	list, e := y.nodes[i].Tick()
	for _, p := range list {
		if len(y.way) < net.MaxFlights {
			y.way = append(y.way, p)
		}
	}
	return e
}

func (y *model) restart(i int) api.Errno {
	y.disks[i].Up()
	x, e := node.Open(y.disks[i], i, len(y.nodes)-1, y.far)
	y.nodes[i], y.down[i] = x, false
	return e
}

// do has something happen to the model.
func (y *model) do(a group.Act) api.Errno {
	if a.Kind == group.Deliver || a.Kind == group.Lose || a.Kind == group.Double {
		switch {
		case a.I < 0 || a.I >= len(y.way):
			return api.ErrMissing
		case a.Kind == group.Deliver:
			return y.deliver(a.I)
		case a.Kind == group.Lose:
			y.take(a.I)
		case len(y.way) == net.MaxFlights:
			return api.ErrFull
		default:
			y.way = append(y.way, y.way[a.I])
		}
		return api.OK
	}
	i := a.Node
	switch {
	case i < 0 || i >= len(y.nodes):
		return api.ErrRange
	case a.Kind == group.Restart && !y.down[i]:
		return api.ErrState
	case a.Kind == group.Restart:
		return y.restart(i)
	case y.down[i]:
		return api.ErrDown
	}
	e := api.OK
	switch a.Kind {
	case group.Client:
		e = y.nodes[i].Do(a.Msg)
	case group.Tick:
		e = y.tick(i)
	case group.Crash:
		y.disks[i].Crash(a.I, a.Turn)
	case group.Fuse:
		y.disks[i].Fuse(a.I)
	case group.Compact:
		e = y.nodes[i].Compact()
	default:
		e = api.ErrKind
	}
	y.down[i] = y.disks[i].Down()
	return e
}

// calm has so many calm rounds go by in the model.
func (y *model) calm(rounds int) api.Errno {
	for i := range y.nodes {
		y.disks[i].Fuse(-1)
		if y.down[i] {
			if e := y.restart(i); e != api.OK {
				return e
			}
		}
	}
	for range rounds {
		for i := range y.nodes {
			if e := y.tick(i); e != api.OK {
				return e
			}
		}
		for many := len(y.way); many > 0; many-- {
			y.deliver(0)
		}
	}
	return api.OK
}

// player is a group, its model, and what was counted, so that the play is seen to say something.
type player struct {
	g      *group.Group
	y      *model
	r      *rand.Rand
	counts map[string]int
}

// client is something that a client says, which may be wrong.
func (p *player) client() group.Act {
	n := p.g.N()
	i := p.r.Intn(n)
	id := name(i, 1+p.r.Intn(8))
	amount := int64(1 + p.r.Intn(4))
	switch p.r.Intn(16) {
	case 0, 1, 2, 3, 4:
		return says(i, api.Msg{Kind: msg.Issue, ID: id, Buyer: p.r.Intn(n), Currency: p.r.Intn(2), Amount: amount})
	case 5, 6, 7, 8, 9, 10:
		return expects(p.r.Intn(n), id.Seller, id.Number, amount)
	case 11:
		return says(i, api.Msg{Kind: msg.Adjust, ID: id, Amount: amount})
	case 12:
		return says(i, api.Msg{Kind: msg.Withdraw, ID: id})
	case 13:
		m := api.Msg{Kind: p.r.Intn(18), ID: id, Buyer: p.r.Intn(n), Cycle: p.r.Intn(5), Amount: amount, Yes: true, Nets: make([]int64, n)}
		return says(p.r.Intn(n+2)-1, m)
	}
	return says(n, api.Msg{Kind: msg.Start, Currency: p.r.Intn(2)})
}

// act is something that may happen, at random; what is wrong, too.
func (p *player) act() group.Act {
	i, many := p.r.Intn(p.g.N()+1), p.g.Flights()
	packet := 0
	if many > 0 && p.r.Intn(2) == 0 {
		packet = p.r.Intn(many)
	}
	switch x := p.r.Intn(60); {
	case x < 8:
		return p.client()
	case x < 16:
		return at(group.Tick, i)
	case x < 44:
		return of(group.Deliver, packet)
	case x < 47 || many > 200:
		return of(group.Lose, packet)
	case x < 49:
		return of(group.Double, packet)
	case x == 49:
		return group.Act{Kind: group.Crash, Node: i, I: p.r.Intn(9), Turn: byte(x)}
	case x < 52:
		return group.Act{Kind: group.Fuse, Node: i, I: p.r.Intn(60) - 10}
	case x < 56:
		for j := range p.g.N() + 1 {
			if !p.g.Up(j) {
				i = j
			}
		}
		return at(group.Restart, i)
	case x == 56:
		return at(group.Compact, i)
	case x == 57:
		return group.Act{Kind: p.r.Intn(12) - 1, Node: p.r.Intn(12) - 1, I: p.r.Intn(300) - 20}
	}
	return at(group.Tick, i)
}

// step has something happen, at random, to the group and its model, and holds them against each other.
func (p *player) step(t *testing.T) {
	t.Helper()
	was := p.g.States()
	a := p.act()
	e := p.g.Do(a)
	is(t, fmt.Sprintf("Do %+v", a), e, p.y.do(a))
	p.counts[fmt.Sprint(a.Kind, " ", e)]++
	p.holds(t)
	now := p.g.States()
	p.agrees(t, now)
	if e == api.OK && (a.Kind == group.Client || a.Kind == group.Deliver || a.Kind == group.Tick) {
		return
	}
	for i, s := range now { // P22.4
		if fmt.Sprint(s) != fmt.Sprint(was[i]) {
			t.Errorf("behind %+v: %v %d is %+v, was %+v", a, e, i, s, was[i])
		}
	}
}

// holds says that the group is as its model is.
func (p *player) holds(t *testing.T) {
	t.Helper()
	if got, want := text(p.g), p.y.text(); got != want {
		t.Errorf("it is %s, want %s", got, want)
	}
}

// agrees says that what P22.3 tells holds.
func (p *player) agrees(t *testing.T, list []state.State) {
	t.Helper()
	n := len(list) - 1
	for _, s := range list[:n] {
		for _, x := range s.Desk.Book.Items {
			p.itemAgrees(t, list, s.Me, x)
		}
		for _, part := range s.Parts.List {
			p.partAgrees(t, list, s.Me, part)
		}
	}
	settled := map[api.ID]int{}
	for i, run := range list[n].Chief.Runs {
		if run.State != chief.Committed {
			continue
		}
		p.counts["committed"]++
		for _, s := range list[:n] {
			if part, _ := s.Parts.Get(i + 1); part.State != vote.Yes && part.State != vote.Done {
				t.Errorf("%d is committed, and %d has %+v", i+1, s.Me, part)
			}
		}
		for _, line := range run.Lines {
			if settled[line.ID] != 0 {
				t.Errorf("%v is in %d and %d", line.ID, settled[line.ID], i+1)
			}
			settled[line.ID] = i + 1
		}
	}
	for _, s := range list[:n] {
		for _, x := range s.Desk.Book.Items {
			if x.State == item.Settled && settled[x.ID] != x.Cycle {
				t.Errorf("%d has %+v, which is in %d", s.Me, x, settled[x.ID])
			}
		}
	}
}

// itemAgrees says that the buyer of an item that its seller has as agreed has it, too.
func (p *player) itemAgrees(t *testing.T, list []state.State, me int, x api.Item) {
	t.Helper()
	if x.Seller != me || x.State != item.Agreed {
		return
	}
	p.counts["agreed"]++
	y, _ := list[x.Buyer].Desk.Book.Get(x.ID)
	if y.State != item.Agreed && y.State != item.Settled {
		t.Errorf("%d has %+v, %d has %+v", me, x, x.Buyer, y)
	}
	if y.State == item.Settled {
		p.counts["agreed and settled"]++
	}
	y.State, y.Cycle = x.State, x.Cycle
	if x != y {
		t.Errorf("%d has %+v, %d has %+v", me, x, x.Buyer, y)
	}
}

// partAgrees says that what an entity knows of a cycle is so, and that the lines to which it said yes sum to its net.
func (p *player) partAgrees(t *testing.T, list []state.State, me int, part vote.Part) {
	t.Helper()
	run, _ := list[len(list)-1].Chief.Get(part.Cycle)
	switch {
	case part.State == vote.Done && run.State != chief.Committed, part.State == vote.Undone && run.State != chief.Aborted:
		t.Errorf("%d has %+v, the coordinator %+v", me, part, run)
	case part.State == vote.Undone:
		p.counts["undone"]++
	}
	if part.State != vote.Yes && part.State != vote.Done {
		return
	}
	sum := int64(0)
	for _, line := range part.Lines {
		p.counts["said yes to"]++
		switch me {
		case line.Seller:
			sum += line.Amount
		case line.Buyer:
			sum -= line.Amount
		default:
			t.Errorf("%d has the line %+v", me, line)
		}
	}
	if len(run.Nets) != len(list)-1 || sum != run.Nets[me] {
		t.Errorf("%d has %+v, which sum to %d; the coordinator %+v", me, part, sum, run)
	}
}

// P22.1 to P22.4, P2: whatever happens a group does what the chapter's words tell, and what they promise of it holds.
func TestGroupsAgree(t *testing.T) {
	counts := map[string]int{}
	for seed := range int64(30) {
		r := rand.New(rand.NewSource(seed))
		n, room := 1+int(seed%5), []int{disk.MaxRoom, disk.MaxRoom, 600}[seed%3]
		p := &player{y: newModel(t, n, 2, room), r: r, counts: counts}
		g, e := group.New(n, 2, room)
		is(t, "New", e, api.OK)
		p.g = g
		for i := range 700 {
			p.step(t)
			if i%150 == 149 {
				rounds := r.Intn(9) - 1
				is(t, "Calm", p.g.Calm(rounds), p.y.calm(rounds))
				p.holds(t)
			}
			if t.Failed() {
				t.Fatalf("seed %d", seed)
			}
		}
		p.rests(t)
		if t.Failed() {
			t.Fatalf("seed %d", seed)
		}
	}
	for kind, want := range [][]api.Errno{
		group.Client:  {api.OK, api.ErrRange, api.ErrFull, api.ErrMissing, api.ErrTwice, api.ErrState, api.ErrKind, api.ErrDown},
		group.Deliver: {api.OK, api.ErrMissing, api.ErrDown, api.ErrState}, group.Lose: {api.OK, api.ErrMissing}, group.Double: {api.OK, api.ErrMissing},
		group.Tick: {api.OK, api.ErrDown}, group.Crash: {api.OK, api.ErrDown}, group.Fuse: {api.OK, api.ErrDown},
		group.Restart: {api.OK, api.ErrState}, group.Compact: {api.OK, api.ErrDown},
	} {
		for _, e := range want {
			if counts[fmt.Sprint(kind, " ", e)] < 5 { // else the play says little
				t.Errorf("act %d, %v: %v", kind, e, counts)
			}
		}
	}
	for _, what := range []string{"committed", "agreed", "agreed and settled", "undone", "said yes to"} {
		if counts[what] < 100 {
			t.Errorf("%s: %v", what, counts)
		}
	}
}

// rests has many calm rounds go by, behind which what holds still holds.
func (p *player) rests(t *testing.T) {
	t.Helper()
	for range 8 {
		is(t, "Calm", p.g.Calm(10), p.y.calm(10))
		p.holds(t)
		p.agrees(t, p.g.States())
	}
}
