package van

import (
	"slices"

	"canteen/api"
)

// The limits that only bounds have.
const (
	minBound     = 3    // the fewest places that have a bound
	maxPotential = 1000 // the absolute value of a potential
)

// tree returns the smallest sum of ways that connect the places from first on, and how many of these ways each place has.
func tree(ways [][]int, first int) (int, []int) {
	sum, degrees := 0, make([]int, len(ways))
	connected := []int{first}
	var left []int
	for place := first + 1; place < len(ways); place++ {
		left = append(left, place)
	}
	for len(left) > 0 {
		from, to := first, nearest(ways[first], left)
		for _, place := range connected {
			if near := nearest(ways[place], left); ways[place][left[near]] < ways[from][left[to]] {
				from, to = place, near
			}
		}
		place := left[to]
		sum += ways[from][place]
		degrees[from]++
		degrees[place]++
		connected = append(connected, place)
		left = slices.Delete(left, to, to+1)
	}
	return sum, degrees
}

// Tree returns the smallest sum of ways that connect all places.
func Tree(ways [][]int) (int, api.Errno) {
	if e := Validate(ways); e != api.OK {
		return 0, e
	}
	sum, _ := tree(ways, 0)
	return sum, api.OK
}

// counted returns the ways with the potentials of both their ends added.
func counted(ways [][]int, potentials []int) [][]int {
	var table [][]int
	for from, row := range ways {
		var sums []int
		for to, minutes := range row {
			sums = append(sums, minutes+potentials[from]+potentials[to])
		}
		table = append(table, sums)
	}
	return table
}

// boundOf returns the bound of potentials, and how many of the ways that make it each place has.
func boundOf(ways [][]int, potentials []int) (int, []int) {
	table := counted(ways, potentials)
	bound, degrees := tree(table, 1)
	left := allStops(len(ways))
	for range 2 {
		near := nearest(table[0], left)
		stop := left[near]
		bound += table[0][stop]
		degrees[0]++
		degrees[stop]++
		left = slices.Delete(left, near, near+1)
	}
	for _, p := range potentials {
		bound -= 2 * p
	}
	return bound, degrees
}

// checkPotentials returns the error of ways, and then ErrArg if they have no bound or potentials are not theirs.
func checkPotentials(ways [][]int, potentials []int) api.Errno {
	if e := Validate(ways); e != api.OK {
		return e
	}
	if len(ways) < minBound || len(potentials) != len(ways) {
		return api.ErrArg
	}
	for _, p := range potentials {
		if !isWithin(p, -maxPotential, maxPotential) {
			return api.ErrArg
		}
	}
	return api.OK
}

// Bound returns the bound of potentials, which no tour of all stops is below.
func Bound(ways [][]int, potentials []int) (int, api.Errno) {
	if e := checkPotentials(ways, potentials); e != api.OK {
		return 0, e
	}
	bound, _ := boundOf(ways, potentials)
	return bound, api.OK
}

// moved returns potentials that make the ways of a place dearer by a step for each way that it has beyond the two of a tour, and cheaper for each that it lacks.
func moved(potentials, degrees []int, step int) []int {
	var further []int
	for place, p := range potentials {
		p += step * (degrees[place] - 2)
		further = append(further, max(-maxPotential, min(p, maxPotential)))
	}
	return further
}

// raise returns potentials whose bound is at least that of the given ones. It takes steps while they help, and then smaller ones; it ends, since no bound is above the length of a tour.
func raise(ways [][]int, potentials []int) []int {
	best := slices.Clone(potentials)
	bound, degrees := boundOf(ways, best)
	for step := maxPotential; step > 0; {
		further := moved(best, degrees, step)
		b, d := boundOf(ways, further)
		if b > bound {
			best, bound, degrees = further, b, d
		} else {
			step /= 2
		}
	}
	return best
}

// Improve returns potentials whose bound is at least that of the given ones and that of all zeros.
func Improve(ways [][]int, potentials []int) ([]int, api.Errno) {
	if e := checkPotentials(ways, potentials); e != api.OK {
		return nil, e
	}
	start := make([]int, len(ways))
	least, _ := boundOf(ways, start)
	if bound, _ := boundOf(ways, potentials); bound > least {
		start = potentials
	}
	return raise(ways, start), api.OK
}
