package van

import (
	"slices"

	"canteen/api"
)

// cut is a tour in trips: how many stops each one has, and the sum of their lengths.
type cut struct {
	counts []int
	sum    int
}

// isBetter reports whether a cut has a smaller sum than another one, or the same with fewer trips.
func (c cut) isBetter(other cut) bool {
	if c.sum != other.sum {
		return c.sum < other.sum
	}
	return len(c.counts) < len(other.counts)
}

// bestCut returns the best cut of a tour. Of equal ones the shortest first trip comes first, whose rest is the best one by the same rule.
func bestCut(ways [][]int, stops []api.Stop, tour []int, boxes int) cut {
	var best cut
	load := 0
	for i, stop := range tour {
		load += stops[stop].Boxes
		if load > boxes {
			break
		}
		rest := bestCut(ways, stops, tour[i+1:], boxes)
		c := cut{append([]int{i + 1}, rest.counts...), length(ways, tour[:i+1]) + rest.sum}
		if i == 0 || c.isBetter(best) {
			best = c
		}
	}
	return best
}

// Trips cuts a tour into trips of at most so many boxes, and returns them and the sum of their lengths.
func Trips(ways [][]int, stops []api.Stop, tour []int, boxes int) ([][]int, int, api.Errno) {
	if e := checkStops(ways, stops, tour); e != api.OK {
		return nil, 0, e
	}
	if !isWithin(boxes, 0, api.MaxBoxes) {
		return nil, 0, api.ErrArg
	}
	for _, stop := range tour {
		if stops[stop].Boxes > boxes {
			return nil, 0, api.ErrShort
		}
	}
	best := bestCut(ways, stops, tour, boxes)
	var trips [][]int
	from := 0
	for _, count := range best.counts {
		trips = append(trips, slices.Clone(tour[from:from+count]))
		from += count
	}
	return trips, best.sum, api.OK
}
