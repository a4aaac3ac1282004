package van

import (
	"math/rand"
	"slices"
	"testing"

	"canteen/api"
)

// cuts are all lists of numbers above 0 with the sum n, in ascending order.
func cuts(n int) [][]int {
	if n == 0 {
		return [][]int{{}}
	}
	var all [][]int
	for first := 1; first <= n; first++ {
		for _, rest := range cuts(n - first) {
			all = append(all, append([]int{first}, rest...))
		}
	}
	return all
}

// inTrips returns the trips of a tour that is cut, the sum of their lengths, and whether each has at most so many boxes.
func inTrips(ways [][]int, stops []api.Stop, tour, counts []int, boxes int) ([][]int, int, bool) {
	var trips [][]int
	sum := 0
	for _, count := range counts {
		trip, load := tour[:count], 0
		for _, stop := range trip {
			load += stops[stop].Boxes
		}
		if load > boxes {
			return nil, 0, false
		}
		n, _ := Length(ways, trip)
		trips, sum, tour = append(trips, trip), sum+n, tour[count:]
	}
	return trips, sum, true
}

// tripsOfAll returns the best trips of a tour of all, their sum, and how many have this sum, and of these as few trips.
func tripsOfAll(ways [][]int, stops []api.Stop, tour []int, boxes int) (best [][]int, least, equal, few int) {
	has := false
	for _, counts := range cuts(len(tour)) {
		trips, sum, fits := inTrips(ways, stops, tour, counts, boxes)
		switch {
		case !fits:
		case !has || sum < least:
			best, least, equal, few, has = trips, sum, 1, 1, true
		case sum == least && len(trips) < len(best):
			best, equal, few = trips, equal+1, 1
		case sum == least && len(trips) == len(best):
			equal, few = equal+1, few+1
		case sum == least:
			equal++
		}
	}
	return best, least, equal, few
}

// P8.7: Trips are the best ones of all into which a tour can be cut.
func TestTrips(t *testing.T) {
	r := rand.New(rand.NewSource(99))
	severalSums, severalFew, parted := 0, 0, 0
	for n := 1; n <= api.MaxStops; n++ {
		for _, most := range []int{0, 1, 2, 5, 100} {
			for range 100 {
				ways, stops := someWays(r, n, most), someStops(r, n, 10)
				if r.Intn(2) == 0 {
					ways = placesOn(r, n, most+1)
				}
				for i := range stops {
					stops[i].Boxes = r.Intn(6)
				}
				tour, boxes := someTour(r, n), 5+r.Intn(10)
				want, least, equal, few := tripsOfAll(ways, stops, tour, boxes)
				trips, sum, e := Trips(ways, stops, tour, boxes)
				if e != api.OK || sum != least || !slices.EqualFunc(trips, want, slices.Equal) {
					t.Fatalf("Trips of %v by %v to %v with %d: %v, %d, %v, want %v, %d", tour, ways, stops, boxes, trips, sum, e, want, least)
				}
				if equal > few {
					severalSums++
				}
				if few > 1 {
					severalFew++
				}
				if len(trips) > 1 {
					parted++
				}
			}
		}
	}
	if severalSums < 200 || severalFew < 80 || parted < 500 {
		t.Errorf("%d have more trips with the sum, %d have as few, %d are in several trips", severalSums, severalFew, parted)
	}
}

// P8.7: trips that are known.
func TestTripsExamples(t *testing.T) {
	// to come by the kitchen is shorter than to drive from 1 to 2
	detour := [][]int{{0, 1, 1}, {1, 0, 9}, {1, 9, 0}}
	for _, c := range []struct {
		ways        [][]int
		boxesOf     []int
		tour        []int
		boxes       int
		want        [][]int
		sum         int
		description string
	}{
		{three(), []int{0, 3, 3}, []int{1, 2}, 5, [][]int{{1}, {2}}, 14, "the chapter's example"},
		{three(), []int{0, 3, 3}, []int{1, 2}, 6, [][]int{{1, 2}}, 12, "all boxes at once"},
		{three(), []int{0, 3, 3}, []int{2, 1}, 3, [][]int{{2}, {1}}, 14, "one stop each"},
		{three(), []int{100, 0, 0}, []int{2, 1}, 0, [][]int{{2, 1}}, 12, "no boxes at all"},
		{three(), []int{0, 100, 100}, []int{1, 2}, 100, [][]int{{1}, {2}}, 14, "the most boxes"},
		{three(), []int{0, 100, 3}, []int{2}, 3, [][]int{{2}}, 8, "the other stop is not in the tour"},
		{three(), []int{0, 3, 3}, nil, 2, nil, 0, "an empty tour"},
		{three(), []int{0, 3, 3}, nil, 0, nil, 0, "an empty tour and no boxes"},
		{square(1), []int{0}, nil, 0, nil, 0, "no stops"},
		{detour, []int{0, 1, 1}, []int{1, 2}, 9, [][]int{{1}, {2}}, 4, "a detour by the kitchen"},
		{square(4), []int{0, 2, 2, 2}, []int{3, 1, 2}, 4, [][]int{{3}, {1, 2}}, 0, "the list of numbers that comes first"},
		{square(4), []int{0, 1, 1, 1}, []int{3, 1, 2}, 4, [][]int{{3, 1, 2}}, 0, "the fewest trips"},
		{square(5), []int{0, 3, 1, 1, 3}, []int{1, 2, 3, 4}, 4, [][]int{{1, 2}, {3, 4}}, 0, "the fewest trips before the list of numbers"},
		{square(7), []int{0, 1, 1, 1, 1, 1, 1}, []int{1, 2, 3, 4, 5, 6}, 4, [][]int{{1, 2}, {3, 4, 5, 6}}, 0, "a short first trip"},
	} {
		stops := make([]api.Stop, len(c.boxesOf))
		for i, n := range c.boxesOf {
			stops[i].Boxes = n
		}
		trips, sum, e := Trips(c.ways, stops, c.tour, c.boxes)
		if !slices.EqualFunc(trips, c.want, slices.Equal) || sum != c.sum || e != api.OK {
			t.Errorf("%s: %v, %d, %v, want %v, %d", c.description, trips, sum, e, c.want, c.sum)
		}
	}
}

// P8.7: ErrShort if one stop of the tour gets more than the boxes, and ErrArg first.
func TestTripsShort(t *testing.T) {
	stops := []api.Stop{{Boxes: 100}, {Boxes: 3}, {Boxes: 4}}
	for _, c := range []struct {
		tour  []int
		boxes int
		want  api.Errno
	}{
		{[]int{1, 2}, 4, api.OK},
		{[]int{1, 2}, 3, api.ErrShort},
		{[]int{2, 1}, 3, api.ErrShort},
		{[]int{1}, 3, api.OK},
		{[]int{1}, 2, api.ErrShort},
		{[]int{1}, 0, api.ErrShort},
		{[]int{1}, -1, api.ErrArg},
		{[]int{1, 2}, 101, api.ErrArg},
		{nil, -1, api.ErrArg},
		{nil, 101, api.ErrArg},
		{nil, 0, api.OK},
	} {
		trips, sum, e := Trips(three(), stops, c.tour, c.boxes)
		if e != c.want || e != api.OK && (len(trips) != 0 || sum != 0) {
			t.Errorf("Trips of %v with %d: %v, %d, %v, want %v", c.tour, c.boxes, trips, sum, e, c.want)
		}
	}
}
