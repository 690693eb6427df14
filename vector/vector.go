// Package vector has positions: what each entity has of each currency, in order, each once, and none that is nothing.
package vector

import (
	"cmp"
	"slices"

	"contra/api"
	"contra/money"
)

// Position is what an entity has of a currency.
type Position struct {
	Entity, Currency int
	Amount           int64
}

// Vector is positions, in their order.
type Vector struct {
	list []Position // by compare, none of the amount 0; never changed once it is there
}

// Add: an entity has so much more of a currency.
func (v Vector) Add(entity, currency int, amount int64) (Vector, api.Errno) {
	if entity < 0 || entity >= api.MaxEntity || currency < 0 || currency >= api.MaxCurrency {
		return v.clone(), api.ErrRange
	}
	sum, e := money.Add(v.Of(entity, currency), amount)
	if e != api.OK {
		return v.clone(), e
	}
	return v.with(Position{entity, currency, sum}), api.OK
}

// Of: what an entity has of a currency.
func (v Vector) Of(entity, currency int) int64 {
	i, found := v.find(Position{Entity: entity, Currency: currency})
	if !found {
		return 0
	}
	return v.list[i].Amount
}

// List: all positions, in their order.
func (v Vector) List() []Position { return v.clone().list }

// Plus: two vectors together.
func (v Vector) Plus(w Vector) (Vector, api.Errno) {
	sum, e := v.clone(), api.OK
	for _, p := range w.list {
		if sum, e = sum.Add(p.Entity, p.Currency, p.Amount); e != api.OK {
			return v.clone(), e
		}
	}
	return sum, api.OK
}

// Total: what all have of a currency.
func (v Vector) Total(currency int) (int64, api.Errno) {
	var amounts []int64
	for _, p := range v.list {
		if p.Currency == currency {
			amounts = append(amounts, p.Amount)
		}
	}
	return money.Sum(amounts...)
}

// compare: the order of positions, whatever their amounts: by entity, then by currency.
func compare(a, b Position) int {
	return cmp.Or(cmp.Compare(a.Entity, b.Entity), cmp.Compare(a.Currency, b.Currency))
}

// find: where a position stands, or would stand, and whether it does.
func (v Vector) find(p Position) (int, bool) {
	return slices.BinarySearchFunc(v.list, p, compare)
}

// with: the vector with p in the place of what was there; nothing, if p is of the amount 0.
func (v Vector) with(p Position) Vector {
	i, found := v.find(p)
	ahead, behind := v.list[:i], v.list[i:]
	if found {
		behind = behind[1:]
	}
	if p.Amount == 0 {
		return Vector{slices.Concat(ahead, behind)}
	}
	return Vector{slices.Concat(ahead, []Position{p}, behind)}
}

// clone: the same in memory of its own, as all that a call answers is.
func (v Vector) clone() Vector { return Vector{slices.Concat(v.list)} }
