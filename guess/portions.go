package guess

import "canteen/api"

// areCounts reports whether counts say how often each demand was counted.
func areCounts(counts []int) bool {
	some := false
	for _, n := range counts {
		if !isWithin(n, 0, api.MaxCount) {
			return false
		}
		some = some || n > 0
	}
	return some && len(counts) <= api.MaxDemand+1
}

// checkPortions returns ErrArg if counts or what a portion too many or too few costs are not as they must be, or if there cannot be so many portions.
func checkPortions(counts []int, over, under, q int) api.Errno {
	if !areCounts(counts) || !isWithin(over, 0, api.MaxCost) || !isWithin(under, 0, api.MaxCost) || !isWithin(q, 0, api.MaxDemand) {
		return api.ErrArg
	}
	return api.OK
}

// cost returns the cost of cooking q portions; q may be any number from 0 on.
func cost(counts []int, over, under, q int) int {
	sum := 0
	for d, n := range counts {
		sum += n * (over*max(q-d, 0) + under*max(d-q, 0))
	}
	return sum
}

// quantity returns the smallest number of portions with the least cost.
func quantity(counts []int, over, under int) int {
	best := 0
	for q := range len(counts) { // more portions than were ever wanted never cost less
		if cost(counts, over, under, q) < cost(counts, over, under, best) {
			best = q
		}
	}
	return best
}

// Cost returns the cost of cooking q portions, over all that was counted.
func Cost(counts []int, over, under, q int) (int, api.Errno) {
	if e := checkPortions(counts, over, under, q); e != api.OK {
		return 0, e
	}
	return cost(counts, over, under, q), api.OK
}

// Quantity returns the smallest number of portions with the least cost.
func Quantity(counts []int, over, under int) (int, api.Errno) {
	if e := checkPortions(counts, over, under, 0); e != api.OK {
		return 0, e
	}
	return quantity(counts, over, under), api.OK
}

// IsBest reports whether no other number of portions costs less than q.
func IsBest(counts []int, over, under, q int) (bool, api.Errno) {
	if e := checkPortions(counts, over, under, q); e != api.OK {
		return false, e
	}
	least := cost(counts, over, under, quantity(counts, over, under))
	return cost(counts, over, under, q) == least, api.OK
}

// Marginal returns by how much q + 1 portions cost more than q.
func Marginal(counts []int, over, under, q int) (int, api.Errno) {
	if e := checkPortions(counts, over, under, q); e != api.OK {
		return 0, e
	}
	return cost(counts, over, under, q+1) - cost(counts, over, under, q), api.OK
}
