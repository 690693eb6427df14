package image

import (
	"math"

	"contra/api"
	"contra/book"
	"contra/chief"
	"contra/code"
	"contra/link"
	"contra/msg"
	"contra/vote"
)

// readNumbers reads some numbers, none of which is below 0.
func readNumbers(r *code.Reader, list ...*int) {
	for _, n := range list {
		*n = r.Int(0, math.MaxInt)
	}
}

// readList reads how many things there are, and each of them, as far as there are bytes.
func readList[T any](r *code.Reader, read func(r *code.Reader) T) []T {
	var list []T
	for range r.Int(0, math.MaxInt) {
		list = append(list, read(r))
		if r.Err() != api.OK {
			return nil
		}
	}
	return list
}

func readItem(r *code.Reader) (x api.Item) {
	readNumbers(r, &x.Seller, &x.Number, &x.Buyer, &x.Currency, &x.Round, &x.State, &x.Cycle)
	x.Amount = r.Num()
	return x
}

func readOrder(r *code.Reader) (x book.Order) {
	readNumbers(r, &x.Seller, &x.Number)
	x.Amount = r.Num()
	return x
}

func readPart(r *code.Reader) (x vote.Part) {
	readNumbers(r, &x.Cycle, &x.Currency, &x.State)
	x.Lines = readList(r, readLine)
	return x
}

func readLine(r *code.Reader) (x api.Line) {
	readNumbers(r, &x.Seller, &x.Number, &x.Buyer)
	x.Amount = r.Num()
	return x
}

func readRun(r *code.Reader) (x chief.Run) {
	readNumbers(r, &x.Currency, &x.State)
	x.From = readList(r, readHeard)
	x.Lines = readList(r, readLine)
	x.Nets = readList(r, (*code.Reader).Num)
	return x
}

func readHeard(r *code.Reader) (x chief.Heard) {
	x.Offered, x.Voted = r.Bool(), r.Bool()
	x.Lines = readList(r, readLine)
	return x
}

func readPeer(r *code.Reader) (x link.Peer) {
	readNumbers(r, &x.Heard)
	x.Said = readList(r, readMsg)
	return x
}

// readMsg reads something that was said; of a kind that there isn't it is the zero message, which isn't sound.
func readMsg(r *code.Reader) api.Msg {
	m, _ := msg.From(r) // the reader keeps all other errors
	return m
}
