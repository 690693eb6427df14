package image

import (
	"cmp"

	"contra/api"
	"contra/book"
	"contra/chief"
	"contra/code"
	"contra/link"
	"contra/msg"
	"contra/vote"
)

// writer is the bytes so far, and the first error; that stays.
type writer struct {
	b   []byte
	err api.Errno
}

// num writes a number.
func (w *writer) num(n int64) {
	// By itself: layer 4's Num copies what it is to stand behind, which would take too long of many.
	w.b = append(w.b, code.Num(nil, n)...)
}

// numbers writes some numbers.
func (w *writer) numbers(list ...int) {
	for _, n := range list {
		w.num(int64(n))
	}
}

// truth writes a truth.
func (w *writer) truth(x bool) { w.b = append(w.b, code.Bool(nil, x)...) }

// writeList writes how many things there are, and each of them.
func writeList[T any](w *writer, list []T, write func(w *writer, x T)) {
	w.numbers(len(list))
	for _, x := range list {
		write(w, x)
	}
}

func writeItem(w *writer, x api.Item) {
	w.numbers(x.Seller, x.Number, x.Buyer, x.Currency, x.Round, x.State, x.Cycle)
	w.num(x.Amount)
}

func writeOrder(w *writer, x book.Order) {
	w.numbers(x.Seller, x.Number)
	w.num(x.Amount)
}

func writePart(w *writer, x vote.Part) {
	w.numbers(x.Cycle, x.Currency, x.State)
	writeList(w, x.Lines, writeLine)
}

func writeLine(w *writer, x api.Line) {
	w.numbers(x.Seller, x.Number, x.Buyer)
	w.num(x.Amount)
}

func writeRun(w *writer, x chief.Run) {
	w.numbers(x.Currency, x.State)
	writeList(w, x.From, writeHeard)
	writeList(w, x.Lines, writeLine)
	writeList(w, x.Nets, (*writer).num)
}

func writeHeard(w *writer, x chief.Heard) {
	w.truth(x.Offered)
	w.truth(x.Voted)
	writeList(w, x.Lines, writeLine)
}

func writePeer(w *writer, x link.Peer) {
	w.numbers(x.Heard)
	writeList(w, x.Said, writeMsg)
}

func writeMsg(w *writer, m api.Msg) {
	b, e := msg.Write(nil, m)
	w.b, w.err = append(w.b, b...), cmp.Or(w.err, e)
}
