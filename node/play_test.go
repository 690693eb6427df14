package node_test

import (
	"fmt"
	"math/rand"
	"slices"
	"testing"

	"contra/api"
	"contra/book"
	"contra/disk"
	"contra/elim"
	"contra/item"
	"contra/link"
	"contra/match"
	"contra/msg"
	"contra/node"
	"contra/state"
)

// awaited is something that a node waits for, and when it is due.
type awaited struct {
	m  api.Msg
	at int
}

// model is a node as the chapter's words tell of it, with no log.
type model struct {
	s       state.State
	records int
	now     int
	waits   []awaited // in the order in which they were set
	heard   []int
}

// newModel is a new node's model, or, if it was told something, that of one that is opened anew.
func newModel(s state.State, records int) *model {
	y := &model{s: s, records: records, heard: make([]int, s.N+1)}
	y.look()
	return y
}

// while is how long it waits for something at first.
func while(m api.Msg) int {
	if m.Cycle != 0 {
		return node.Cycles
	}
	return node.Patience
}

// look has the model wait for what it has to.
func (y *model) look() {
	dues := y.s.Dues()
	same := func(a, b api.Msg) bool { return a.ID == b.ID && a.Cycle == b.Cycle && a.Round == b.Round }
	y.waits = slices.DeleteFunc(y.waits, func(w awaited) bool {
		return !slices.ContainsFunc(dues, func(m api.Msg) bool { return same(m, w.m) })
	})
	for _, m := range dues {
		if !slices.ContainsFunc(y.waits, func(w awaited) bool { return same(m, w.m) }) {
			y.waits = append(y.waits, awaited{m, y.now + while(m)})
		}
	}
}

// told has the model be told an event, of a disk with room that doesn't crash.
func (y *model) told(x state.Event) api.Errno {
	next, e := y.s.Apply(x)
	if e == api.OK {
		_, e = msg.Write(nil, x.Msg)
	}
	if e == api.OK {
		y.s = next
		y.records++
		y.look()
	}
	return e
}

func (y *model) do(m api.Msg) api.Errno {
	if m.Kind == msg.Due {
		return api.ErrKind
	}
	return y.told(state.Event{From: match.Client, Msg: m})
}

func (y *model) receive(p link.Packet) api.Errno {
	if p.To != y.s.Me || p.From == y.s.Me || p.From < 0 || p.From > y.s.N {
		return api.ErrOther
	}
	peer := y.s.Links.Peers[p.From]
	if heard := min(p.Heard, len(peer.Said)); heard > y.heard[p.From] {
		y.heard[p.From] = heard
	}
	switch {
	case p.Number >= 0 && p.Number <= peer.Heard:
		return api.OK
	case p.Number != peer.Heard+1:
		return api.ErrState
	}
	return y.told(state.Event{From: p.From, Number: p.Number, Msg: p.Msg})
}

func (y *model) tick() []link.Packet {
	y.now++
	first := -1
	for i, w := range y.waits {
		if w.at <= y.now && (first < 0 || w.at < y.waits[first].at) {
			first = i
		}
	}
	if first >= 0 {
		w := y.waits[first]
		y.told(state.Event{From: match.Client, Msg: w.m})
		y.waits = slices.DeleteFunc(y.waits, func(v awaited) bool { return v.m.ID == w.m.ID && v.m.Cycle == w.m.Cycle })
		y.waits = append(y.waits, awaited{w.m, y.now + node.Cycles})
		y.look()
	}
	var list []link.Packet
	for to := range y.s.N + 1 {
		list = append(list, y.s.Links.Packets(to, y.heard[to])...)
	}
	return list
}

// player is a group of nodes, each held against its model, and what is on its way between them.
type player struct {
	disks  []*disk.Disk
	nodes  []*node.Node
	models []*model
	way    []link.Packet
	r      *rand.Rand
	counts map[string]int
}

// founded is a group of so many entities.
func founded(t *testing.T, n int, r *rand.Rand, counts map[string]int) *player {
	t.Helper()
	p := &player{r: r, counts: counts}
	for me := range n + 1 {
		d := made(t, disk.MaxRoom)
		x, e := node.Open(d, me, n, 2)
		s, f := state.New(me, n, 2)
		if e != api.OK || f != api.OK {
			t.Fatalf("Open: %v, %v", e, f)
		}
		p.disks, p.nodes, p.models = append(p.disks, d), append(p.nodes, x), append(p.models, newModel(s, 0))
	}
	return p
}

// message is something that a client may say to a node, or, beside an item, that is wrong.
func (p *player) message(i int) api.Msg {
	n := len(p.nodes) - 1
	m := api.Msg{ID: name(p.r.Intn(n), 1+p.r.Intn(6)), Buyer: p.r.Intn(n), Currency: p.r.Intn(2), Amount: int64(1 + p.r.Intn(4))}
	switch p.r.Intn(12) {
	case 0, 1, 2, 3:
		m.Kind, m.ID.Seller = msg.Issue, i
	case 4, 5, 6, 7:
		m.Kind = msg.Order
	case 8, 9:
		m.Kind, m.ID.Seller = msg.Adjust, i
	case 10:
		m.Kind, m.ID.Seller = msg.Withdraw, i
	case 11:
		m.Kind, m.Cycle = p.r.Intn(18), p.r.Intn(3)-1
	}
	if i == n && p.r.Intn(2) == 0 {
		m = api.Msg{Kind: msg.Start, Currency: p.r.Intn(2)}
	}
	return m
}

// step has something happen, at random, to a node and its model alike.
func (p *player) step(t *testing.T) {
	t.Helper()
	i := p.r.Intn(len(p.nodes))
	x, y := p.nodes[i], p.models[i]
	switch p.r.Intn(24) {
	case 0, 1, 2, 3:
		m := p.message(i)
		p.same(t, "Do", x.Do(m), y.do(m))
	case 4, 5, 6, 7:
		got, e := x.Tick()
		want := y.tick()
		if fmt.Sprint(got) != fmt.Sprint(want) || e != api.OK {
			t.Errorf("%d sends %v, %v; want %v", i, got, e, want)
		}
		p.way = append(p.way, got...)
	case 8:
		p.same(t, "Compact", x.Compact(), api.OK)
		y.records = 1
	case 9:
		p.crash(t, i)
	default:
		p.deliver(t)
	}
	p.holds(t, i)
}

// same holds an answer against the model's.
func (p *player) same(t *testing.T, call string, e, want api.Errno) {
	t.Helper()
	is(t, call, e, want)
	p.counts[fmt.Sprint(call, " ", want)]++
}

// holds says that a node is as its model is.
func (p *player) holds(t *testing.T, i int) {
	t.Helper()
	x, y := p.nodes[i], p.models[i]
	if text(x.State()) != text(y.s) || x.Records() != y.records {
		t.Fatalf("%d is %+v, %d records; want %+v, %d", i, x.State(), x.Records(), y.s, y.records)
	}
}

// deliver has some packet come, and maybe stay on its way, too.
func (p *player) deliver(t *testing.T) {
	t.Helper()
	if len(p.way) == 0 {
		return
	}
	i := p.r.Intn(len(p.way))
	q := p.way[i]
	if p.r.Intn(4) > 0 {
		p.way = slices.Delete(p.way, i, i+1)
	}
	to := q.To
	n := len(p.nodes) - 1
	switch p.r.Intn(40) { // wrong ones, but none that tells a lie
	case 0:
		q.To = (to + 1 + p.r.Intn(n)) % (n + 1)
	case 1:
		q.From = []int{-2, -1, to, n + 1, 9}[p.r.Intn(5)]
	case 2:
		q.Number = []int{-1, p.models[to].s.Links.Peers[q.From].Heard + 2}[p.r.Intn(2)]
	case 3:
		q.Heard -= p.r.Intn(3)
	}
	if len(p.way) > 500 {
		p.way = nil // they are lost
	}
	p.same(t, "Receive", p.nodes[to].Receive(q), p.models[to].receive(q))
	p.holds(t, to)
}

// crash has a node's disk crash, maybe by what it does next, and opens it anew; or it goes on as it is.
func (p *player) crash(t *testing.T, i int) {
	t.Helper()
	x, d := p.nodes[i], p.disks[i]
	if p.r.Intn(3) == 0 {
		d.Crash(p.r.Intn(50), byte(p.r.Intn(256)))
	} else {
		p.cut(t, i)
	}
	is(t, "Compact", x.Compact(), map[bool]api.Errno{false: api.OK, true: api.ErrDown}[d.Down()])
	if !d.Down() {
		p.models[i].records = 1
	}
	p.holds(t, i)
	if d.Down() && p.r.Intn(2) == 0 {
		d.Crash(p.r.Intn(50), byte(p.r.Intn(256)))
	}
	d.Up()
	if p.r.Intn(3) > 0 {
		y := p.models[i]
		p.models[i] = newModel(y.s, y.records)
		again, e := node.Open(d, y.s.Me, y.s.N, 2)
		is(t, "Open", e, api.OK)
		p.nodes[i] = again
		p.counts["Open"]++
	}
}

// cut has a node do something while a crash is due; if the disk goes down by it, nothing was done.
func (p *player) cut(t *testing.T, i int) {
	t.Helper()
	x, y, d := p.nodes[i], p.models[i], p.disks[i]
	d.Fuse(p.r.Intn(25))
	m := p.message(i)
	tick := p.r.Intn(2) == 0
	var e api.Errno
	if tick {
		_, e = x.Tick()
	} else {
		e = x.Do(m)
	}
	switch {
	case d.Down():
		is(t, "by what it does", e, api.ErrDown)
		p.counts["it goes down"]++
	case tick:
		is(t, "Tick", e, api.OK)
		y.tick()
	default:
		is(t, "Do", e, y.do(m))
	}
	d.Fuse(-1)
}

// rest has all nodes tick, and all that is sent come, until nobody waits for anything, and nothing more is heard.
func (p *player) rest(t *testing.T) {
	t.Helper()
	for range 400 {
		p.way = nil
		for i, x := range p.nodes {
			got, e := x.Tick()
			is(t, "Tick", e, api.OK)
			p.models[i].tick()
			p.way = append(p.way, got...)
		}
		calm := !slices.ContainsFunc(p.way, func(q link.Packet) bool { return q.Number > 0 })
		for _, q := range p.way {
			p.same(t, "Receive", p.nodes[q.To].Receive(q), p.models[q.To].receive(q))
		}
		for i, x := range p.nodes {
			p.holds(t, i)
			calm = calm && len(x.State().Dues()) == 0
		}
		if calm {
			return
		}
	}
	t.Error("no rest")
}

// P21.1 to P21.4: whatever happens each node does what the chapter's words tell, and a group comes to rest, with all the same at both parties.
func TestGroupsAgree(t *testing.T) {
	counts, states := map[string]int{}, map[int]int{}
	for seed := range int64(60) {
		p := founded(t, 1+int(seed%4), rand.New(rand.NewSource(seed)), counts)
		for range 600 {
			p.step(t)
			if t.Failed() {
				t.Fatalf("seed %d", seed)
			}
		}
		p.rest(t)
		var books []book.Book
		for _, x := range p.nodes[:len(p.nodes)-1] {
			s := x.State()
			books = append(books, s.Desk.Book)
			for _, y := range s.Desk.Book.Items {
				states[y.State]++
			}
		}
		if !elim.Even(0, books...) || !elim.Even(1, books...) {
			t.Errorf("at rest the books aren't even: %+v", books)
		}
		if t.Failed() {
			t.Fatalf("seed %d", seed)
		}
	}
	for _, what := range []string{"Do errno 0", "Receive errno 0", "Receive errno 90", "Receive errno 140", "Compact errno 0", "it goes down", "Open"} {
		if counts[what] < 100 { // else the play says little
			t.Errorf("%s: %d of %v", what, counts[what], counts)
		}
	}
	if states[item.Agreed] < 50 || states[item.Cancelled] < 50 || states[item.Settled] < 50 {
		t.Errorf("states %v", states)
	}
}
