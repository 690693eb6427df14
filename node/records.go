package node

import (
	"math"

	"contra/api"
	"contra/code"
	"contra/image"
	"contra/match"
	"contra/msg"
	"contra/state"
)

// The kinds of records; each begins with its kind.
const (
	told  byte = 1 + iota // an event
	whole                 // all that the node was
)

// recordOf: a record of a kind.
func recordOf(kind byte, body []byte) []byte { return append([]byte{kind}, body...) }

// writeEvent: the record of an event.
func writeEvent(x state.Event) ([]byte, api.Errno) {
	said, e := msg.Write(nil, x.Msg)
	if e != api.OK {
		return nil, e
	}
	from := code.Num(code.Num(nil, int64(x.From)), int64(x.Number))
	return recordOf(told, append(from, said...)), api.OK
}

// readEvent: the event of which bytes are the record, but for its kind.
func readEvent(body []byte) (x state.Event, e api.Errno) {
	r := code.Read(body)
	x.From, x.Number = r.Int(match.Client, api.MaxEntity), r.Int(0, math.MaxInt)
	x.Msg, e = msg.From(r)
	if e == api.OK {
		e = r.End()
	}
	return x, e
}

// replay: the node, once it was told all that is in the records.
func replay(s state.State, list [][]byte) (state.State, api.Errno) {
records:
	for _, b := range list {
		if len(b) == 0 {
			return state.State{}, api.ErrForm
		}
		switch body := b[1:]; b[0] {
		case told:
			if x, e := readEvent(body); e == api.OK {
				if s, e = s.Apply(x); e == api.OK {
					continue records
				}
			}
		case whole:
			if was, e := image.Read(body); e == api.OK && alike(was, s) {
				s = was
				continue records
			}
		}
		return state.State{}, api.ErrForm // no node like this one has written that
	}
	return s, api.OK
}

// alike: has the one the other one's number, among as many, and takes amounts as far apart?
func alike(s, t state.State) bool {
	return s.Me == t.Me && s.N == t.N && s.Desk.Far == t.Desk.Far
}
