package kitchen

import (
	"slices"

	"canteen/api"
)

// best tries all orders, and returns the first one with the smallest time, and this time.
func best(l []api.Batch) ([]int, int) {
	order := make([]int, len(l))
	for place := range len(order) {
		order[place] = place
	}
	found, least := slices.Clone(order), timeOf(run(l, order))
	// the batches from the place on are put into each order; those before it stay
	var try func(place int, last Shift)
	try = func(place int, last Shift) {
		if place == len(order) && last.Packed < least {
			found, least = slices.Clone(order), last.Packed
		}
		for further := range len(order) - place {
			other := place + further
			order[place], order[other] = order[other], order[place]
			try(place+1, next(last, l, order[place]))
			order[place], order[other] = order[other], order[place]
		}
	}
	try(0, Shift{})
	return found, least
}

// Best returns an order with the smallest time.
func Best(l []api.Batch) ([]int, api.Errno) {
	if e := Validate(l); e != api.OK {
		return nil, e
	}
	order, _ := best(l)
	return order, api.OK
}

// Least returns the smallest time of an order.
func Least(l []api.Batch) (int, api.Errno) {
	if e := Validate(l); e != api.OK {
		return 0, e
	}
	_, time := best(l)
	return time, api.OK
}

// Bound returns a time that no order is below, without trying any.
func Bound(l []api.Batch) (int, api.Errno) {
	if e := Validate(l); e != api.OK || len(l) == 0 {
		return 0, e
	}
	cooks, packs, longest := 0, 0, 0
	leastCook, leastPack := api.MaxMinutes, api.MaxMinutes
	for _, b := range l {
		cooks += b.Cook
		packs += b.Pack
		longest = max(longest, b.Cook+b.Pack)
		leastCook = min(leastCook, b.Cook)
		leastPack = min(leastPack, b.Pack)
	}
	return max(cooks+leastPack, leastCook+packs, longest), api.OK
}

// Before reports whether two batches take no longer with a before b than with b before a: the smaller of the numbers is how long a stove and a line work at once.
func Before(a, b api.Batch) bool {
	return min(a.Cook, b.Pack) <= min(b.Cook, a.Pack)
}

// Sorted reports whether each batch of the order may come before each later one. All pairs are looked at, since Before of neighbours says nothing of the others.
func Sorted(l []api.Batch, order []int) (bool, api.Errno) {
	if e := check(l, order); e != api.OK {
		return false, e
	}
	for later := range len(order) {
		for earlier := range later {
			if !Before(l[order[earlier]], l[order[later]]) {
				return false, api.OK
			}
		}
	}
	return true, api.OK
}

// Reverse returns the batches with Cook and Pack exchanged.
func Reverse(l []api.Batch) ([]api.Batch, api.Errno) {
	if e := Validate(l); e != api.OK {
		return nil, e
	}
	var reversed []api.Batch
	for _, b := range l {
		reversed = append(reversed, api.Batch{Cook: b.Pack, Pack: b.Cook})
	}
	return reversed, api.OK
}
