package van

import (
	"slices"

	"canteen/api"
)

// found is a tour and what it costs. A search panics with it when no other tour can cost less.
type found struct {
	tour []int
	cost int
}

// tryTours hands each tour of all stops on to try, which may stop this by a panic and does not keep the tour.
func tryTours(places int, try func(tour []int)) {
	tour := allStops(places)
	// the stops from the place on are put into each order; those before it stay
	var from func(place int)
	from = func(place int) {
		if place == len(tour) {
			try(tour)
		}
		for other := place; other < len(tour); other++ {
			tour[place], tour[other] = tour[other], tour[place]
			from(place + 1)
			tour[place], tour[other] = tour[other], tour[place]
		}
	}
	from(0)
}

// search returns a tour of all stops with the least cost, and whether any tour is allowed. The costs are known not to be below enough: the search panics with a tour that costs no more.
func search(places, enough int, cost func(tour []int) (int, bool)) (found, bool) {
	var best found
	is := false
	tryTours(places, func(tour []int) {
		c, allowed := cost(tour)
		if !allowed || is && c >= best.cost {
			return
		}
		best, is = found{slices.Clone(tour), c}, true
		if c <= enough {
			panic(best)
		}
	})
	return best, is
}

// leastLength returns a length that no tour of all stops is below, without trying any.
func leastLength(ways [][]int) int {
	if len(ways) < minBound {
		return 0
	}
	zeros := make([]int, len(ways))
	bound, _ := boundOf(ways, raise(ways, zeros))
	return bound
}

// Tour returns a tour of all stops with the smallest length.
func Tour(ways [][]int) (tour []int, e api.Errno) {
	if e := Validate(ways); e != api.OK {
		return nil, e
	}
	defer func() {
		if f, stopped := recover().(found); stopped {
			tour = f.tour
		}
	}()
	f, _ := search(len(ways), leastLength(ways), func(tour []int) (int, bool) {
		return length(ways, tour), true
	})
	return f.tour, api.OK
}

// Shortest returns the smallest length of a tour of all stops.
func Shortest(ways [][]int) (int, api.Errno) {
	tour, e := Tour(ways)
	if e != api.OK {
		return 0, e
	}
	return length(ways, tour), api.OK
}

// Earliest returns a tour of all stops that is not late anywhere and after which the van is back as early as possible, when it is back, and whether there is one.
func Earliest(ways [][]int, stops []api.Stop, begin int) (tour []int, back int, is bool, e api.Errno) {
	if e := checkDrive(ways, stops, nil, begin); e != api.OK {
		return nil, 0, false, e
	}
	defer func() {
		if f, stopped := recover().(found); stopped {
			tour, back, is = f.tour, f.cost, true
		}
	}()
	// if it never waits, the van drives and stays
	enough := begin + leastLength(ways)
	for _, s := range stops[1:] {
		enough += s.Stay
	}
	f, is := search(len(ways), enough, func(tour []int) (int, bool) {
		visits, back := drive(ways, stops, tour, begin)
		return back, firstLate(stops, visits) == len(visits)
	})
	return f.tour, f.cost, is, api.OK
}
