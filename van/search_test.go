package van

import (
	"math/rand"
	"slices"
	"testing"

	"canteen/api"
)

// shortestOfAll returns the smallest length of all tours.
func shortestOfAll(ways [][]int) int {
	least := -1
	for _, tour := range orders(len(ways)) {
		if n, _ := Length(ways, tour); least < 0 || n < least {
			least = n
		}
	}
	return least
}

// P8.2 and S6: Shortest is the smallest length of all tours, and Tour is one with it.
func TestShortest(t *testing.T) {
	forWays(func(ways [][]int) {
		want := shortestOfAll(ways)
		if n, e := Shortest(ways); n != want || e != api.OK {
			t.Fatalf("Shortest of %v: %d, %v, want %d", ways, n, e, want)
		}
		tour, e := Tour(ways)
		if n, f := Length(ways, tour); n != want || !isAllStops(tour, len(ways)) || e != api.OK || f != api.OK {
			t.Fatalf("Tour of %v: %v, %v, with the length %d, want %d", ways, tour, e, n, want)
		}
	})
}

// P8.2: Shortest of ways that are known.
func TestShortestExamples(t *testing.T) {
	for _, c := range []struct {
		ways [][]int
		want int
	}{
		{square(1), 0},
		{onLine(0, 7), 14},
		{onLine(0, 0), 0},
		{three(), 12},
		{onLine(0, 1, 2, 10, 11), 22},
		{onLine(5, 0, 9, 1, 10, 3), 20},
		{square(7), 0},
		// on a ring each other way is 1000
		{ring(7), 7},
	} {
		n, e := Shortest(c.ways)
		tour, f := Tour(c.ways)
		if n != c.want || e != api.OK || f != api.OK || !isAllStops(tour, len(c.ways)) {
			t.Errorf("Shortest of %v: %d, %v, by the tour %v, %v, want %d", c.ways, n, e, tour, f, c.want)
		}
	}
}

// ring are places of which each has a short way to two others only.
func ring(n int) [][]int {
	at := []int{0, 3, 5, 1, 6, 2, 4}
	ways := square(n)
	for i := range n {
		for j := range n {
			if i != j {
				ways[at[i]][at[j]] = 1000
			}
		}
	}
	for i := range n {
		from, to := at[i], at[(i+1)%n]
		ways[from][to], ways[to][from] = 1, 1
	}
	return ways
}

// searched is how a search ended: what it found, whether it stopped before the end, and how many tours it tried.
func searched(places, enough int, cost func(tour []int) (int, bool)) (f found, is, stopped bool, tries int) {
	defer func() {
		if p, does := recover().(found); does {
			f, is, stopped = p, true, true
		}
	}()
	f, is = search(places, enough, func(tour []int) (int, bool) {
		tries++
		return cost(tour)
	})
	return f, is, false, tries
}

// P8.2: a search tries all tours once, or stops at one that costs no more than enough.
func TestSearch(t *testing.T) {
	last := func(tour []int) (int, bool) { return tour[len(tour)-1], tour[0] != 1 }
	for _, c := range []struct {
		enough        int
		want, tries   int
		stopped, none bool
	}{
		{0, 1, 24, false, false},
		{1, 1, 24, true, false},
		{4, 4, 24, true, false},
	} {
		f, is, stopped, tries := searched(5, c.enough, last)
		if !is || stopped != c.stopped || stopped && f.cost > c.enough || !stopped && (f.cost != c.want || tries != c.tries) || stopped && tries >= c.tries {
			t.Errorf("search with %d: %v, %v, stopped %v after %d", c.enough, f, is, stopped, tries)
		}
	}
	none := func([]int) (int, bool) { return 0, false }
	if f, is, stopped, tries := searched(4, 9, none); is || stopped || tries != 6 || f.tour != nil || f.cost != 0 {
		t.Errorf("search of nothing: %v, %v, stopped %v after %d", f, is, stopped, tries)
	}
	for n := 1; n <= api.MaxStops; n++ {
		var all [][]int
		tryTours(n, func(tour []int) { all = append(all, slices.Clone(tour)) })
		want := orders(n)
		slices.SortFunc(all, slices.Compare)
		slices.SortFunc(want, slices.Compare)
		if !slices.EqualFunc(all, want, slices.Equal) {
			t.Errorf("%d tours of %d places, want %d", len(all), n, len(want))
		}
	}
}

// someStops are stops of n places, each open for some of the minutes up to most.
func someStops(r *rand.Rand, n, most int) []api.Stop {
	var stops []api.Stop
	for range n {
		from := r.Intn(most + 1)
		stops = append(stops, api.Stop{Open: from, Close: min(from+r.Intn(most+1), maxMinute), Stay: r.Intn(most/4 + 1), Boxes: r.Intn(api.MaxBoxes + 1)})
	}
	return stops
}

// earliestOfAll returns when the van is back at the earliest of all tours that are not late anywhere, and whether there is one.
func earliestOfAll(ways [][]int, stops []api.Stop, begin int) (int, bool) {
	least, is := 0, false
	for _, tour := range orders(len(ways)) {
		_, back, late := watch(ways, stops, tour, begin)
		if late < 0 && (!is || back < least) {
			least, is = back, true
		}
	}
	return least, is
}

// P8.6 and S6: Earliest is the tour of all tours that Check accepts after which the van is back first.
func TestEarliest(t *testing.T) {
	r := rand.New(rand.NewSource(93))
	some, none := 0, 0
	for n := 1; n <= api.MaxStops; n++ {
		for _, most := range []int{3, 20, 300, 2000} {
			for range 25 {
				ways, stops, begin := someWays(r, n, most/4+1), someStops(r, n, most), r.Intn(most/2+1)
				want, has := earliestOfAll(ways, stops, begin)
				tour, back, is, e := Earliest(ways, stops, begin)
				if e != api.OK || is != has || back != want {
					t.Fatalf("Earliest by %v to %v at %d: %v, %d, %v, %v, want %d, %v", ways, stops, begin, tour, back, is, e, want, has)
				}
				if !is {
					none++
					if len(tour) != 0 {
						t.Fatalf("Earliest by %v to %v at %d: the tour %v", ways, stops, begin, tour)
					}
					continue
				}
				some++
				if m, e := Check(ways, stops, tour, begin); m != back || e != api.OK || !isAllStops(tour, n) {
					t.Fatalf("Earliest by %v to %v at %d: %v, but Check %d, %v", ways, stops, begin, tour, m, e)
				}
			}
		}
	}
	if some < 100 || none < 100 {
		t.Errorf("%d have a tour, %d have none", some, none)
	}
}

// P8.6: Earliest where all stops are always open, so that the shortest tour is the earliest, and where there are none.
func TestEarliestExamples(t *testing.T) {
	open := slices.Repeat([]api.Stop{{Close: 10000, Stay: 3}}, 7)
	r := rand.New(rand.NewSource(94))
	for n := 1; n <= api.MaxStops; n++ {
		ways := someWays(r, n, 100)
		shortest, _ := Shortest(ways)
		if tour, back, is, e := Earliest(ways, open[:n], 50); back != 50+shortest+3*(n-1) || !is || e != api.OK || !isAllStops(tour, n) {
			t.Errorf("Earliest to %d open stops: %v, %d, %v, %v", n-1, tour, back, is, e)
		}
	}
	// the kitchen's own window, stay and boxes do not matter
	for _, s := range []api.Stop{{}, {Open: 10000, Close: 5, Stay: 10000, Boxes: 100}} {
		for _, begin := range []int{0, 9, 10000} {
			if tour, back, is, e := Earliest(square(1), []api.Stop{s}, begin); len(tour) != 0 || back != begin || !is || e != api.OK {
				t.Errorf("Earliest without stops at %d: %v, %d, %v, %v", begin, tour, back, is, e)
			}
		}
	}
	stops := []api.Stop{{}, {Open: 10, Close: 12, Stay: 2}, {Open: 0, Close: 20, Stay: 1}}
	for _, c := range []struct {
		begin int
		tour  []int
		back  int
		is    bool
	}{
		{0, []int{2, 1}, 15, true},
		{2, []int{2, 1}, 17, true},
		{3, []int{1, 2}, 22, true},
		{9, []int{1, 2}, 24, true},
		{10, nil, 0, false},
		{10000, nil, 0, false},
	} {
		if tour, back, is, e := Earliest(three(), stops, c.begin); !slices.Equal(tour, c.tour) || back != c.back || is != c.is || e != api.OK {
			t.Errorf("Earliest at %d: %v, %d, %v, %v", c.begin, tour, back, is, e)
		}
	}
}
