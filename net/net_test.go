package net_test

import (
	"math"
	"math/rand"
	"reflect"
	"slices"
	"testing"

	"contra/api"
	"contra/link"
	"contra/net"
)

// packet is a packet that no other number is.
func packet(n int) link.Packet {
	return link.Packet{From: n, To: n + 1, Number: n + 2, Heard: n + 3, Msg: api.Msg{
		Kind: n + 4, ID: api.ID{Seller: n + 5, Number: n + 6}, Buyer: n + 7, Currency: n + 8, Round: n + 9, Cycle: n + 10, Amount: int64(n) + 11, Yes: n%2 == 0,
		Lines: []api.Line{{ID: api.ID{Seller: n, Number: n}, Buyer: n, Amount: int64(n)}, {Amount: int64(-n)}}, Nets: []int64{int64(n), int64(-n), 0},
	}}
}

// packets are the packets of these numbers.
func packets(numbers ...int) []link.Packet {
	var list []link.Packet
	for _, n := range numbers {
		list = append(list, packet(n))
	}
	return list
}

// same: are two packets the same? An empty list may be nil or not.
func same(p, q link.Packet) bool {
	lists := slices.Equal(p.Msg.Lines, q.Msg.Lines) && slices.Equal(p.Msg.Nets, q.Msg.Nets)
	p.Msg.Lines, p.Msg.Nets, q.Msg.Lines, q.Msg.Nets = nil, nil, nil, nil
	return lists && reflect.DeepEqual(p, q)
}

// send sends packets, of which so many have to be on their way by it.
func send(t *testing.T, n *net.Net, want int, list ...link.Packet) {
	t.Helper()
	if k := n.Send(list...); k != want {
		t.Fatalf("Send of %d: %d, want %d", len(list), k, want)
	}
}

// has says which packets are on their way, in order.
func has(t *testing.T, call string, n *net.Net, want ...link.Packet) {
	t.Helper()
	if n.Len() != len(want) {
		t.Fatalf("%s: %d on their way, want %d", call, n.Len(), len(want))
	}
	for i, q := range want {
		if p, e := n.Look(i); !same(p, q) || e != api.OK {
			t.Fatalf("%s: Look %d: %+v, %v; want %+v", call, i, p, e, q)
		}
	}
}

// misses says that there is no i-th packet, whatever is called.
func misses(t *testing.T, n *net.Net, i int) {
	t.Helper()
	if p, e := n.Look(i); !same(p, link.Packet{}) || e != api.ErrMissing {
		t.Errorf("Look %d: %+v, %v", i, p, e)
	}
	if p, e := n.Take(i); !same(p, link.Packet{}) || e != api.ErrMissing {
		t.Errorf("Take %d: %+v, %v", i, p, e)
	}
	if e := n.Twice(i); e != api.ErrMissing {
		t.Errorf("Twice %d: %v", i, e)
	}
}

// take takes the i-th packet, which has to be that one.
func take(t *testing.T, n *net.Net, i int, want link.Packet) {
	t.Helper()
	if p, e := n.Take(i); !same(p, want) || e != api.OK {
		t.Fatalf("Take %d: %+v, %v; want %+v", i, p, e, want)
	}
}

// twice has the i-th packet on its way once more.
func twice(t *testing.T, n *net.Net, i int) {
	t.Helper()
	if e := n.Twice(i); e != api.OK {
		t.Fatalf("Twice %d: %v", i, e)
	}
}

// outside are numbers of which there is no packet among so many.
func outside(count int) []int {
	return []int{math.MinInt, math.MinInt + 1, -count - 1, -count, -2, -1, count, count + 1, 2*count + 1, 1 << 31, 1 << 32, math.MaxInt - 1, math.MaxInt}
}

// full is a net on which as many packets as can be are on their way: all are one of these, by turns.
func full(t *testing.T, some ...link.Packet) *net.Net {
	t.Helper()
	n := new(net.Net)
	for i := range net.MaxFlights {
		send(t, n, 1, some[i%len(some)])
	}
	return n
}

// P13.1
func TestSendIsBehindAllOthers(t *testing.T) {
	var n net.Net
	if net.MaxFlights != 8192 {
		t.Errorf("MaxFlights is %d", net.MaxFlights)
	}
	has(t, "the zero Net", &n)
	send(t, &n, 0)
	has(t, "Send of none", &n)
	send(t, &n, 1, packet(5))
	has(t, "Send of one", &n, packet(5))
	send(t, &n, 3, packets(9, 2, 5)...)
	has(t, "Send of three", &n, packets(5, 9, 2, 5)...)
	send(t, &n, 0)
	send(t, &n, 2, link.Packet{}, link.Packet{From: -1, To: math.MinInt, Number: math.MaxInt, Heard: -7})
	has(t, "Send of what no node says", &n, append(packets(5, 9, 2, 5), link.Packet{}, link.Packet{From: -1, To: math.MinInt, Number: math.MaxInt, Heard: -7})...)
}

// P13.1
func TestSendLosesWhatIsTooMuch(t *testing.T) {
	list := make([]link.Packet, net.MaxFlights+5)
	for i := range list {
		list[i] = link.Packet{Number: i + 1}
	}
	for _, ahead := range []int{0, 1, 4000, net.MaxFlights - 1, net.MaxFlights} {
		for _, more := range []int{0, 1, 2, net.MaxFlights - ahead - 1, net.MaxFlights - ahead, net.MaxFlights - ahead + 1, len(list) - ahead} {
			if more < 0 {
				continue
			}
			var n net.Net
			send(t, &n, ahead, list[:ahead]...)
			there := min(ahead+more, net.MaxFlights)
			send(t, &n, there-ahead, list[ahead:ahead+more]...)
			has(t, "Send", &n, list[:there]...)
			for _, i := range outside(there) {
				misses(t, &n, i)
			}
		}
	}
}

// P13.1
func TestSendBehindATakeHasRoomAgain(t *testing.T) {
	n := full(t, packets(1, 2)...)
	send(t, n, 0, packet(3))
	take(t, n, 0, packet(1))
	take(t, n, 0, packet(2))
	take(t, n, 0, packet(1))
	send(t, n, 3, packets(4, 5, 6, 7)...)
	send(t, n, 0, packet(8))
	take(t, n, net.MaxFlights-1, packet(6))
	take(t, n, net.MaxFlights-2, packet(5))
	take(t, n, net.MaxFlights-3, packet(4))
	take(t, n, 0, packet(2))
	if n.Len() != net.MaxFlights-4 {
		t.Errorf("%d on their way", n.Len())
	}
}

// P13.2
func TestLookLeavesAllAsItIs(t *testing.T) {
	var n net.Net
	send(t, &n, 3, packets(7, 8, 9)...)
	for range 3 {
		for i, want := range packets(7, 8, 9) {
			if p, e := n.Look(i); !same(p, want) || e != api.OK {
				t.Errorf("Look %d: %+v, %v", i, p, e)
			}
		}
	}
	has(t, "Look", &n, packets(7, 8, 9)...)
}

// P13.2
func TestTakeOfEach(t *testing.T) {
	for i := range 5 {
		var n net.Net
		send(t, &n, 5, packets(0, 1, 2, 3, 4)...)
		take(t, &n, i, packet(i))
		left := slices.Delete(packets(0, 1, 2, 3, 4), i, i+1)
		has(t, "Take", &n, left...)
		for _, k := range outside(4) {
			misses(t, &n, k)
		}
		has(t, "what misses", &n, left...)
	}
}

// P13.2
func TestTwiceIsBehindAllOthers(t *testing.T) {
	var n net.Net
	send(t, &n, 3, packets(1, 2, 3)...)
	twice(t, &n, 1)
	has(t, "Twice", &n, packets(1, 2, 3, 2)...)
	twice(t, &n, 3) // what is there twice can be there three times
	twice(t, &n, 0)
	has(t, "Twice", &n, packets(1, 2, 3, 2, 2, 1)...)
	take(t, &n, 1, packet(2))
	has(t, "Take of one of three", &n, packets(1, 3, 2, 2, 1)...)
	take(t, &n, 0, packet(1))
	take(t, &n, 3, packet(1))
	has(t, "Take of both", &n, packets(3, 2, 2)...)
}

// P13.2
func TestNothingIsThereToBeHad(t *testing.T) {
	var n net.Net
	for _, i := range append(outside(0), 0) {
		misses(t, &n, i)
	}
	send(t, &n, 2, packets(1, 2)...)
	for _, i := range outside(2) {
		misses(t, &n, i)
	}
	has(t, "what misses", &n, packets(1, 2)...)
	take(t, &n, 0, packet(1))
	misses(t, &n, 1)
	take(t, &n, 0, packet(2))
	misses(t, &n, 0)
	has(t, "when all are taken", &n)
	send(t, &n, 1, packet(3))
	has(t, "and one is sent", &n, packet(3))
}

// P13.2: where nothing is there ErrMissing comes ahead of ErrFull.
func TestTwiceRefusesOneTooMany(t *testing.T) {
	n := full(t, packets(1, 2)...)
	for _, i := range []int{0, 1, 4000, net.MaxFlights - 1} {
		if e := n.Twice(i); e != api.ErrFull {
			t.Errorf("Twice %d: %v", i, e)
		}
	}
	for _, i := range outside(net.MaxFlights) {
		misses(t, n, i)
	}
	if n.Len() != net.MaxFlights {
		t.Errorf("%d on their way", n.Len())
	}
	take(t, n, 1, packet(2))
	twice(t, n, 0)
	if e := n.Twice(0); e != api.ErrFull {
		t.Errorf("Twice of one too many: %v", e)
	}
	take(t, n, net.MaxFlights-1, packet(1))
	take(t, n, net.MaxFlights-2, packet(2))
}

// P13.1, P13.2: the chapter's example.
func TestTwoAreOnTheirWay(t *testing.T) {
	var n net.Net
	send(t, &n, 2, packets(1, 2)...)
	take(t, &n, 0, packet(1))
	twice(t, &n, 0)
	has(t, "the example", &n, packets(2, 2)...)
}

// P13.1, P13.2: whatever is called, what is on its way is what a plain list tells.
func TestANetIsAList(t *testing.T) {
	for seed := range int64(40) {
		r := rand.New(rand.NewSource(seed))
		var n net.Net
		var list []link.Packet
		for step := range 400 {
			i := r.Intn(len(list)+3) - 1
			there := i >= 0 && i < len(list)
			switch {
			case r.Intn(3) == 0:
				more := packets(step, step+1000, step+2000)[:r.Intn(4)]
				send(t, &n, len(more), more...)
				list = append(list, more...)
			case !there:
				misses(t, &n, i)
			case r.Intn(2) == 0:
				take(t, &n, i, list[i])
				list = slices.Delete(list, i, i+1)
			default:
				twice(t, &n, i)
				list = append(list, list[i])
			}
			has(t, "at random", &n, list...)
		}
	}
}

// P1
func TestEveryCallEndsAtAllArguments(t *testing.T) {
	nets := []*net.Net{{}, new(net.Net), full(t, packet(1))}
	send(t, nets[1], 2, packets(1, 2)...)
	for _, n := range nets {
		for _, i := range append(outside(n.Len()), 0, 1) {
			n.Look(i)
			n.Twice(i)
			n.Take(i)
			n.Len()
			n.Send()
			n.Send(nil...)
			n.Send(link.Packet{From: i, To: i, Number: i, Heard: i, Msg: api.Msg{Kind: i, Lines: make([]api.Line, 2000), Nets: make([]int64, 2000)}})
		}
	}
}

// P2: what is handed in is neither changed nor kept.
func TestWhatIsSentIsNotKept(t *testing.T) {
	var n net.Net
	room := packets(1, 2, 3)
	for i := range room {
		room[i].Msg.Lines = append(make([]api.Line, 0, 9), room[i].Msg.Lines...)
		room[i].Msg.Nets = append(make([]int64, 0, 9), room[i].Msg.Nets...)
	}
	send(t, &n, 2, room[:2]...)
	send(t, &n, 1, packet(4))
	twice(t, &n, 0)
	take(t, &n, 0, packet(1))
	for i, want := range packets(1, 2, 3) {
		if !same(room[i], want) {
			t.Errorf("what was handed in is changed: %+v", room[i])
		}
		if spare := room[i].Msg.Nets[:9][3:]; slices.Max(spare) != 0 || room[i].Msg.Lines[:9][2] != (api.Line{}) {
			t.Error("spare room of what was handed in is changed")
		}
	}
	for i := range room {
		clear(room[i].Msg.Lines[:9])
		clear(room[i].Msg.Nets[:9])
		room[i] = link.Packet{}
	}
	has(t, "behind a change of what was handed in", &n, packets(2, 4, 1)...)
}

// spoil changes all that a packet's lists hold, and their spare room.
func spoil(p link.Packet) {
	lines, nets := p.Msg.Lines[:cap(p.Msg.Lines)], p.Msg.Nets[:cap(p.Msg.Nets)]
	for i := range lines {
		lines[i].Buyer = 99
	}
	for i := range nets {
		nets[i] = 99
	}
}

// P2: what is answered shares no memory with what is kept, or with another answer; nor do two that were one.
func TestWhatIsAnsweredIsNewMemory(t *testing.T) {
	var n net.Net
	send(t, &n, 2, packets(1, 2)...)
	twice(t, &n, 0)
	twice(t, &n, 0)
	for i, want := range packets(1, 2, 1, 1) {
		one, _ := n.Look(i)
		two, _ := n.Look(i)
		spoil(one)
		if !same(two, want) {
			t.Errorf("another answer: %+v", two)
		}
	}
	has(t, "behind a change of what Look answered", &n, packets(1, 2, 1, 1)...)
	one, _ := n.Look(0)
	two, _ := n.Take(0)
	three, _ := n.Take(1)
	spoil(two)
	if !same(one, packet(1)) || !same(three, packet(1)) {
		t.Errorf("other answers: %+v, %+v", one, three)
	}
	spoil(three)
	has(t, "behind a change of what Take answered", &n, packets(2, 1)...)
}

// P2: of one list that is sent in two packets each packet has its own.
func TestPacketsThatSharedAListShareNone(t *testing.T) {
	var n net.Net
	p := packet(1)
	send(t, &n, 3, p, p, p)
	one, _ := n.Take(0)
	two, _ := n.Look(0)
	spoil(one)
	if !same(two, packet(1)) || !same(p, packet(1)) {
		t.Error("two packets share memory")
	}
	has(t, "behind a change of one", &n, packets(1, 1)...)
}

// P2: two nets have nothing to do with each other.
func TestNetsAreApart(t *testing.T) {
	var a, b net.Net
	list := packets(1, 2, 3)
	send(t, &a, 3, list...)
	send(t, &b, 3, list...)
	take(t, &a, 0, packet(1))
	twice(t, &b, 2)
	send(t, &a, 1, packet(4))
	has(t, "the one", &a, packets(2, 3, 4)...)
	has(t, "the other", &b, packets(1, 2, 3, 3)...)
}
