package link_test

import (
	"math"
	"math/rand"
	"reflect"
	"slices"
	"testing"

	"contra/api"
	"contra/link"
)

// says is a message that no other number says.
func says(n int) api.Msg {
	return api.Msg{
		Kind: n, ID: api.ID{Seller: n + 1, Number: n + 2}, Buyer: n + 3, Currency: n + 4, Round: n + 5, Cycle: n + 6, Amount: int64(n) + 7, Yes: n%2 == 0,
		Lines: []api.Line{{ID: api.ID{Seller: n, Number: n}, Buyer: n, Amount: int64(n)}, {Amount: int64(-n)}}, Nets: []int64{int64(n), int64(-n), 0},
	}
}

// fresh are sessions in which nothing was said or heard.
func fresh(t *testing.T, me, nodes int) link.Links {
	t.Helper()
	l, e := link.New(me, nodes)
	if e != api.OK {
		t.Fatalf("New %d, %d: %v", me, nodes, e)
	}
	return l
}

// say are the sessions in which all these are said to a node, which has to be taken.
func say(t *testing.T, l link.Links, to int, numbers ...int) link.Links {
	t.Helper()
	for _, n := range numbers {
		var e api.Errno
		if l, e = l.Say(to, says(n)); e != api.OK {
			t.Fatalf("Say %d to %d: %v", n, to, e)
		}
	}
	return l
}

// hear are the sessions in which so many things of a node are heard, which has to be taken.
func hear(t *testing.T, l link.Links, from, times int) link.Links {
	t.Helper()
	for range times {
		var e api.Errno
		if l, e = l.Hear(from); e != api.OK {
			t.Fatalf("Hear %d: %v", from, e)
		}
	}
	return l
}

// mixed are sessions of 2 with four others, in which something was said and heard.
func mixed(t *testing.T) link.Links {
	t.Helper()
	l := say(t, fresh(t, 2, 5), 0, 10, 11, 12)
	l = say(t, l, 4, 40)
	l = say(t, l, 3, 30, 31)
	l = hear(t, l, 0, 2)
	return hear(t, l, 1, 5)
}

// byHand are sessions as no call answers them.
func byHand() []link.Links {
	said := []api.Msg{says(1), {}, says(2)}
	peers := []link.Peer{{Said: said, Heard: 3}, {Said: said, Heard: -3}, {Heard: math.MaxInt}, {Said: make([]api.Msg, link.MaxSaid+5), Heard: math.MinInt}, {Said: said[:0]}}
	var list []link.Links
	for _, me := range []int{math.MinInt, -1, 0, 1, 4, 5, 99, math.MaxInt} {
		list = append(list, link.Links{Me: me}, link.Links{Me: me, Peers: peers}, link.Links{Me: me, Peers: make([]link.Peer, 20)})
	}
	return append(list, link.Links{})
}

// copied is the same message in memory of its own.
func copied(m api.Msg) api.Msg {
	m.Lines, m.Nets = append([]api.Line{}, m.Lines...), append([]int64{}, m.Nets...)
	return m
}

// kept are the same sessions in memory of their own, whatever Clone does.
func kept(l link.Links) link.Links {
	l.Peers = append([]link.Peer{}, l.Peers...)
	for i, p := range l.Peers {
		l.Peers[i].Said = nil
		for _, m := range p.Said {
			l.Peers[i].Said = append(l.Peers[i].Said, copied(m))
		}
	}
	return l
}

// sameMsg: are two messages the same? An empty list may be nil or not.
func sameMsg(m, n api.Msg) bool { return reflect.DeepEqual(copied(m), copied(n)) }

// same says that sessions are others just as they should be.
func same(t *testing.T, call string, l, want link.Links) {
	t.Helper()
	if l.Me != want.Me || len(l.Peers) != len(want.Peers) {
		t.Errorf("%s: %d among %d, want %d among %d", call, l.Me, len(l.Peers), want.Me, len(want.Peers))
		return
	}
	for i, p := range l.Peers {
		if !slices.EqualFunc(p.Said, want.Peers[i].Said, sameMsg) || p.Heard != want.Peers[i].Heard {
			t.Errorf("%s: with %d %d said, %d heard: %+v; want %d said, %d heard", call, i, len(p.Said), p.Heard, p.Said, len(want.Peers[i].Said), want.Peers[i].Heard)
		}
	}
}

// sends says what Packets answers.
func sends(t *testing.T, l link.Links, to, heard int, want ...link.Packet) {
	t.Helper()
	alike := func(p, q link.Packet) bool {
		return p.From == q.From && p.To == q.To && p.Number == q.Number && p.Heard == q.Heard && sameMsg(p.Msg, q.Msg)
	}
	if list := l.Packets(to, heard); !slices.EqualFunc(list, want, alike) {
		t.Errorf("Packets %d, %d: %+v, want %+v", to, heard, list, want)
	}
}

// refusesSay says that something isn't said, and that the sessions stay as they are.
func refusesSay(t *testing.T, l link.Links, to int, want api.Errno) {
	t.Helper()
	before := kept(l)
	m, e := l.Say(to, says(99))
	if e != want {
		t.Errorf("Say to %d: %v, want %v", to, e, want)
	}
	same(t, "beside an error of Say", m, link.Links{})
	same(t, "behind a refused Say", l, before)
}

// refusesHear says that nothing is heard, and that the sessions stay as they are.
func refusesHear(t *testing.T, l link.Links, from int) {
	t.Helper()
	before := kept(l)
	m, e := l.Hear(from)
	if e != api.ErrRange {
		t.Errorf("Hear %d: %v", from, e)
	}
	same(t, "beside an error of Hear", m, link.Links{})
	same(t, "behind a refused Hear", l, before)
}

// isNext says what Next answers.
func isNext(t *testing.T, l link.Links, from, number int, next, old bool) {
	t.Helper()
	if n, o := l.Next(from, number); n != next || o != old {
		t.Errorf("Next %d, %d: %v, %v; want %v, %v", from, number, n, o, next, old)
	}
}

// wild are numbers inside and outside what is taken.
func wild() []int {
	return []int{math.MinInt, math.MinInt + 1, -10, -2, -1, 0, 1, 2, 3, 4, 5, 6, 7, 8, 9, 10, 4095, 4096, 4097, math.MaxInt - 1, math.MaxInt}
}

// P12.1
func TestNew(t *testing.T) {
	if link.MaxPeers != 9 || link.MaxSaid != 4096 {
		t.Error("limits are others")
	}
	for _, me := range wild() {
		for _, nodes := range wild() {
			l, e := link.New(me, nodes)
			want, wanted := link.Links{}, api.ErrRange
			if nodes >= 1 && nodes <= 9 && me >= 0 && me < nodes {
				want, wanted = link.Links{Me: me, Peers: make([]link.Peer, nodes)}, api.OK
			}
			if e != wanted {
				t.Errorf("New %d, %d: %v, want %v", me, nodes, e, wanted)
			}
			same(t, "New", l, want)
		}
	}
}

// P12.1
func TestSayIsBehindWhatWasSaid(t *testing.T) {
	for nodes := 1; nodes <= link.MaxPeers; nodes++ {
		for me := range nodes {
			l := fresh(t, me, nodes)
			want := kept(l)
			for n := range 5 * nodes {
				to := n * 7 % nodes
				if to == me {
					continue
				}
				l = say(t, l, to, n)
				want.Peers[to].Said = append(want.Peers[to].Said, says(n))
				same(t, "Say", l, want)
			}
		}
	}
	l := say(t, fresh(t, 0, 2), 1, 5, 5, 5) // the same once more is one thing more
	same(t, "Say of the same", l, link.Links{Peers: []link.Peer{{}, {Said: []api.Msg{says(5), says(5), says(5)}}}})
	l, e := l.Say(1, api.Msg{})
	if e != api.OK || len(l.Peers[1].Said) != 4 || !sameMsg(l.Peers[1].Said[3], api.Msg{}) {
		t.Errorf("Say of the zero message: %v", e)
	}
}

// P12.1
func TestSayAndHearRefuseWhatIsNoOtherNode(t *testing.T) {
	for nodes := 1; nodes <= link.MaxPeers; nodes++ {
		for me := range nodes {
			l := fresh(t, me, nodes)
			for _, n := range wild() {
				if n < 0 || n >= nodes || n == me {
					refusesSay(t, l, n, api.ErrRange)
					refusesHear(t, l, n)
				}
			}
		}
	}
	for _, n := range []int{-1, 2, 5, 6, math.MaxInt, math.MinInt} {
		refusesSay(t, mixed(t), n, api.ErrRange)
		refusesHear(t, mixed(t), n)
	}
	refusesSay(t, link.Links{}, 0, api.ErrRange)
	refusesHear(t, link.Links{}, 0)
}

// P12.1
func TestSayRefusesOneTooMany(t *testing.T) {
	l := fresh(t, 1, 3)
	var want []api.Msg
	for n := range link.MaxSaid {
		var e api.Errno
		if l, e = l.Say(2, api.Msg{Cycle: n}); e != api.OK {
			t.Fatalf("Say the %d-th: %v", n+1, e)
		}
		want = append(want, api.Msg{Cycle: n})
	}
	all := link.Links{Me: 1, Peers: []link.Peer{{}, {}, {Said: want}}}
	same(t, "as many as can be", l, all)
	refusesSay(t, l, 2, api.ErrFull)
	refusesSay(t, l, 1, api.ErrRange)
	refusesSay(t, l, 3, api.ErrRange)
	all.Peers[0].Said, all.Peers[2].Heard = []api.Msg{says(7)}, 1
	same(t, "to another one", hear(t, say(t, l, 0, 7), 2, 1), all)
	sends(t, l, 2, link.MaxSaid-1, link.Packet{From: 1, To: 2, Number: link.MaxSaid, Msg: want[link.MaxSaid-1]})
	sends(t, l, 2, link.MaxSaid, link.Packet{From: 1, To: 2})
}

// P12.1
func TestHearIsOneMore(t *testing.T) {
	l := mixed(t)
	want := kept(l)
	for n := range 50 {
		from := n * 3 % 5
		if from == 2 {
			continue
		}
		l = hear(t, l, from, 1)
		want.Peers[from].Heard++
		same(t, "Hear", l, want)
	}
	l = hear(t, fresh(t, 0, 2), 1, 2*link.MaxSaid) // of what was said there is a limit; of what was heard there is none
	same(t, "Hear of many", l, link.Links{Peers: []link.Peer{{}, {Heard: 2 * link.MaxSaid}}})
}

// P12.1
func TestCloneIsTheSameInMemoryOfItsOwn(t *testing.T) {
	for _, l := range append(byHand(), fresh(t, 0, 1), fresh(t, 8, 9), mixed(t)) {
		before := kept(l)
		c, d := l.Clone(), l.Clone()
		same(t, "Clone", c, l)
		for _, p := range c.Peers[:cap(c.Peers)] { // their spare room, too
			for _, m := range p.Said[:cap(p.Said)] {
				clear(m.Lines[:cap(m.Lines)])
				clear(m.Nets[:cap(m.Nets)])
			}
			clear(p.Said[:cap(p.Said)])
		}
		clear(c.Peers[:cap(c.Peers)])
		same(t, "behind a change of the clone", l, before)
		same(t, "another clone", d, before)
	}
}

// P12.2
func TestNextIsOneMoreThanWasHeard(t *testing.T) {
	l := mixed(t)
	for from, heard := range []int{2, 5, 0, 0, 0} {
		for _, number := range wild() {
			if from == l.Me {
				isNext(t, l, from, number, false, false)
			} else {
				isNext(t, l, from, number, number == heard+1, number >= 1 && number <= heard)
			}
		}
	}
	for _, from := range []int{math.MinInt, -1, 5, 6, 9, math.MaxInt} {
		for _, number := range wild() {
			isNext(t, l, from, number, false, false)
		}
	}
	isNext(t, link.Links{}, 0, 1, false, false)
	isNext(t, link.Links{Me: 1}, 0, 1, false, false)
}

// P12.2
func TestNextOfSessionsMadeByHand(t *testing.T) {
	heard := []int{math.MaxInt, math.MaxInt - 1, 1 << 31, 7, -1, -2, math.MinInt}
	l := link.Links{Me: -1}
	for _, n := range heard {
		l.Peers = append(l.Peers, link.Peer{Heard: n})
	}
	for from, n := range heard {
		for _, number := range append(wild(), 1<<31-1, 1<<31, 1<<31+1) {
			isNext(t, l, from, number, number >= 1 && number-1 == n, number >= 1 && number <= n)
		}
	}
}

// P12.2
func TestPacketsAreOfWhatWasNotHeard(t *testing.T) {
	l := mixed(t)
	packet := func(to, number, heard, n int) link.Packet {
		return link.Packet{From: 2, To: to, Number: number, Heard: heard, Msg: says(n)}
	}
	all := []link.Packet{packet(0, 1, 2, 10), packet(0, 2, 2, 11), packet(0, 3, 2, 12)}
	for _, heard := range []int{math.MinInt, math.MinInt + 1, -3, -1, 0} {
		sends(t, l, 0, heard, all...)
		sends(t, l, 4, heard, packet(4, 1, 0, 40))
	}
	sends(t, l, 0, 1, all[1:]...)
	sends(t, l, 0, 2, all[2])
	for _, heard := range []int{3, 4, 100, link.MaxSaid, math.MaxInt - 1, math.MaxInt} {
		sends(t, l, 0, heard, link.Packet{From: 2, To: 0, Heard: 2})
		sends(t, l, 3, heard, link.Packet{From: 2, To: 3})
	}
	sends(t, l, 3, 1, packet(3, 2, 0, 31))
	for _, heard := range wild() { // nothing was said to 1; five things of it were heard
		sends(t, l, 1, heard, link.Packet{From: 2, To: 1, Heard: 5})
		for _, to := range []int{2, math.MinInt, -1, 5, 6, math.MaxInt} {
			sends(t, l, to, heard)
		}
		sends(t, link.Links{}, 0, heard)
	}
}

// P12.2
func TestPacketsOfSessionsMadeByHand(t *testing.T) {
	said := []api.Msg{says(1), says(2)}
	l := link.Links{Me: -7, Peers: []link.Peer{{Said: said, Heard: -4}, {Heard: math.MaxInt}}}
	sends(t, l, 0, 0, link.Packet{From: -7, To: 0, Number: 1, Heard: -4, Msg: says(1)}, link.Packet{From: -7, To: 0, Number: 2, Heard: -4, Msg: says(2)})
	sends(t, l, 0, 2, link.Packet{From: -7, To: 0, Heard: -4})
	sends(t, l, 1, 0, link.Packet{From: -7, To: 1, Heard: math.MaxInt})
}

// P12.1, P12.2: the chapter's example.
func TestOneThingIsHeardOnce(t *testing.T) {
	zero, one := say(t, fresh(t, 0, 2), 1, 5), fresh(t, 1, 2)
	list := zero.Packets(1, 0)
	if len(list) != 1 {
		t.Fatalf("%d packets", len(list))
	}
	isNext(t, one, 0, list[0].Number, true, false)
	one = hear(t, one, 0, 1)
	isNext(t, one, 0, list[0].Number, false, true)
	answer := one.Packets(0, 0)
	if len(answer) != 1 || answer[0].Number != 0 || answer[0].Heard != 1 {
		t.Fatalf("what is sent back: %+v", answer)
	}
	sends(t, zero, 1, answer[0].Heard, link.Packet{From: 0, To: 1})
}

// P12.1, P12.2: over a net that loses, doubles and turns about each hears what the other one says: all, in order, once.
func TestAllIsHeardInOrderOnce(t *testing.T) {
	for seed := range int64(30) {
		r := rand.New(rand.NewSource(seed))
		nodes := []link.Links{fresh(t, 0, 3), fresh(t, 1, 3), fresh(t, 2, 3)}
		var heard [3][3][]api.Msg // by whom, of whom
		var known [3][3]int
		var flights []link.Packet
		for step := range 600 {
			me, other := r.Intn(3), r.Intn(3)
			if me == other {
				continue
			}
			if step < 300 && r.Intn(4) == 0 {
				nodes[me] = say(t, nodes[me], other, step)
			}
			flights = append(flights, nodes[me].Packets(other, known[me][other])...)
			for len(flights) > 0 && r.Intn(6) > 0 {
				i := r.Intn(len(flights))
				p := flights[i]
				if r.Intn(3) > 0 {
					flights = slices.Delete(flights, i, i+1)
				}
				if step < 300 && r.Intn(3) == 0 {
					continue // lost
				}
				known[p.To][p.From] = max(known[p.To][p.From], p.Heard)
				if next, _ := nodes[p.To].Next(p.From, p.Number); next {
					nodes[p.To] = hear(t, nodes[p.To], p.From, 1)
					heard[p.To][p.From] = append(heard[p.To][p.From], p.Msg)
				}
			}
		}
		for me := range nodes {
			for other := range nodes {
				if me != other && !slices.EqualFunc(heard[other][me], nodes[me].Peers[other].Said, sameMsg) {
					t.Errorf("seed %d: %d has heard %d of %d things of %d", seed, other, len(heard[other][me]), len(nodes[me].Peers[other].Said), me)
				}
			}
		}
	}
}

// P1
func TestEveryCallEndsAtAllArguments(t *testing.T) {
	for _, l := range append(byHand(), mixed(t)) {
		before := kept(l)
		for _, n := range wild() {
			link.New(n, l.Me)
			for _, m := range []api.Msg{{}, says(n), {Lines: make([]api.Line, 2000), Nets: make([]int64, 2000)}} {
				l.Say(n, m)
			}
			l.Hear(n)
			for _, k := range wild() {
				l.Next(n, k)
				l.Packets(n, k)
			}
		}
		l.Clone()
		same(t, "at the end", l, before)
	}
}

// P2: sessions stay as they are, whatever is called on them, and on those that they answer.
func TestSessionsStayAsTheyAre(t *testing.T) {
	l := mixed(t)
	for _, l := range []link.Links{l, l.Clone(), say(t, l, 1, 1, 2, 3, 4, 5)} {
		before := kept(l)
		var several []link.Links
		for n := range 20 {
			for _, to := range []int{0, 1, 3, 4} {
				c := say(t, l, to, 100+n)
				several = append(several, hear(t, say(t, c, to, 200+n), to, n))
				same(t, "behind Say and Hear", l, before)
			}
		}
		for i, c := range several { // what one has no other one has
			n, to := i/4, []int{0, 1, 3, 4}[i%4]
			want := kept(before)
			want.Peers[to].Said = append(want.Peers[to].Said, says(100+n), says(200+n))
			want.Peers[to].Heard += n
			same(t, "sessions beside others", c, want)
		}
	}
}

// P2: nothing is put into the spare room of lists that somebody else has.
func TestSpareRoomStaysAsItIs(t *testing.T) {
	said := []api.Msg{says(1), says(2), says(3)}
	peers := []link.Peer{{}, {Said: said[:1], Heard: 4}, {Heard: 9}}
	l := link.Links{Me: 0, Peers: peers[:2]}
	one, two := say(t, l, 1, 50), say(t, l, 1, 60)
	hear(t, l, 1, 3)
	l.Packets(1, 0)
	if !sameMsg(said[1], says(2)) || !sameMsg(said[2], says(3)) || peers[1].Heard != 4 || peers[2].Heard != 9 {
		t.Error("what was handed in was changed")
	}
	same(t, "one", one, link.Links{Peers: []link.Peer{{}, {Said: []api.Msg{says(1), says(50)}, Heard: 4}}})
	same(t, "two", two, link.Links{Peers: []link.Peer{{}, {Said: []api.Msg{says(1), says(60)}, Heard: 4}}})
}

// P2
func TestWhatIsSaidIsNotKept(t *testing.T) {
	m := says(5)
	l, e := fresh(t, 0, 2).Say(1, m)
	if e != api.OK {
		t.Fatal(e)
	}
	if !sameMsg(m, says(5)) {
		t.Error("what was handed in was changed")
	}
	m.Lines[0], m.Nets[0] = api.Line{Buyer: 99}, 99
	if !sameMsg(l.Peers[1].Said[0], says(5)) {
		t.Error("what was handed in is kept")
	}
}

// P2
func TestPacketsAreNewMemory(t *testing.T) {
	l := mixed(t)
	before := kept(l)
	one, two := l.Packets(0, 0), l.Packets(0, 0)
	for _, p := range one {
		clear(p.Msg.Lines[:cap(p.Msg.Lines)])
		clear(p.Msg.Nets[:cap(p.Msg.Nets)])
	}
	clear(one[:cap(one)])
	same(t, "behind a change of what was answered", l, before)
	for i, p := range two {
		if !sameMsg(p.Msg, says(10+i)) || p.Number != i+1 {
			t.Errorf("another answer: %+v", p)
		}
	}
	shared := says(8) // by hand the same lists are said twice; the packets have their own ones
	twice := link.Links{Peers: []link.Peer{{}, {Said: []api.Msg{shared, shared}}}}
	list := twice.Packets(1, 0)
	clear(list[0].Msg.Lines)
	clear(list[0].Msg.Nets)
	if !sameMsg(list[1].Msg, says(8)) || !sameMsg(shared, says(8)) {
		t.Error("two packets share memory")
	}
}

// P2
func TestAnswersHangOnTheSessionsAlone(t *testing.T) {
	a := mixed(t)
	b := hear(t, say(t, hear(t, say(t, hear(t, fresh(t, 2, 5), 1, 5), 3, 30, 31), 0, 2), 4, 40), 3, 0) // another way to the same
	b = say(t, b, 0, 10, 11, 12)
	same(t, "another way", b, a)
	for n := -1; n < 6; n++ {
		for k := -1; k < 6; k++ {
			sends(t, b, n, k, a.Packets(n, k)...)
			next, old := a.Next(n, k)
			isNext(t, b, n, k, next, old)
		}
	}
}
