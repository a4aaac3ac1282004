package van

import (
	"math/rand"
	"slices"
	"testing"

	"canteen/api"
)

// three are the ways of the chapter's example.
func three() [][]int {
	return [][]int{{0, 3, 4}, {3, 0, 5}, {4, 5, 0}}
}

// onLine are the ways between places on a line.
func onLine(at ...int) [][]int {
	ways := square(len(at))
	for i, x := range at {
		for j, y := range at {
			ways[i][j] = max(x-y, y-x)
		}
	}
	return ways
}

// smallWays goes through all ways of so many places with minutes from 0 to most.
func smallWays(n, most int, do func(ways [][]int)) {
	ways := square(n)
	var set func(i, j int)
	set = func(i, j int) {
		if i == n {
			do(ways)
			return
		}
		if j == i {
			set(i+1, 0)
			return
		}
		for x := range most + 1 {
			ways[i][j], ways[j][i] = x, x
			set(i, j+1)
		}
	}
	set(0, 0)
}

// someWays are ways of n places with minutes from 0 to most.
func someWays(r *rand.Rand, n, most int) [][]int {
	ways := square(n)
	for i := range n {
		for j := range i {
			ways[i][j] = r.Intn(most + 1)
			ways[j][i] = ways[i][j]
		}
	}
	return ways
}

// placesOn are ways between places of a town with so many streets each way.
func placesOn(r *rand.Rand, n, streets int) [][]int {
	var x, y []int
	for range n {
		x, y = append(x, r.Intn(streets)), append(y, r.Intn(streets))
	}
	ways, further := onLine(x...), onLine(y...)
	for i := range ways {
		for j := range ways {
			ways[i][j] += further[i][j]
		}
	}
	return ways
}

// forWays goes through ways, small and large, with and without detours.
func forWays(do func(ways [][]int)) {
	for n := 1; n <= 3; n++ {
		smallWays(n, 5, do)
	}
	smallWays(4, 2, do)
	r := rand.New(rand.NewSource(91))
	for n := 2; n <= api.MaxStops; n++ {
		for _, most := range []int{1, 4, 30, api.MaxMinutes} {
			for range 10 {
				do(someWays(r, n, most))
				do(placesOn(r, n, most/2+1))
			}
		}
	}
}

// orders are all tours of all stops of n places: those of n - 1 with the last stop put into each gap.
func orders(n int) [][]int {
	if n == 1 {
		return [][]int{{}}
	}
	var all [][]int
	for _, shorter := range orders(n - 1) {
		for gap := range n - 1 {
			all = append(all, slices.Insert(slices.Clone(shorter), gap, n-1))
		}
	}
	return all
}

// someTour is a tour of some stops of n places.
func someTour(r *rand.Rand, n int) []int {
	var tour []int
	for _, i := range r.Perm(n - 1)[:r.Intn(n)] {
		tour = append(tour, i+1)
	}
	return tour
}

// isAllStops reports whether a tour is one of all stops of n places.
func isAllStops(tour []int, n int) bool {
	sorted := slices.Sorted(slices.Values(tour))
	for i, stop := range sorted {
		if stop != i+1 {
			return false
		}
	}
	return len(tour) == n-1
}

// P8.1: Validate.
func TestValidate(t *testing.T) {
	for i, c := range []struct {
		ways [][]int
		want api.Errno
	}{
		{nil, api.ErrLarge},
		{[][]int{}, api.ErrLarge},
		{[][]int{{0}}, api.OK},
		{[][]int{{1}}, api.ErrArg},
		{[][]int{{}}, api.ErrArg},
		{[][]int{{0, 0}}, api.ErrArg},
		{[][]int{{0, 1000}, {1000, 0}}, api.OK},
		{[][]int{{0, 1001}, {1001, 0}}, api.ErrArg},
		{[][]int{{0, -1}, {-1, 0}}, api.ErrArg},
		{[][]int{{0, 1}, {2, 0}}, api.ErrArg},
		{[][]int{{0, 1}, {1}}, api.ErrArg},
		{[][]int{{0, 1}, {1, 0}, {1, 1}}, api.ErrArg},
		{[][]int{{0, 1}, {1, 0}, nil}, api.ErrArg},
		{[][]int{{0, 1, 2}, {1, 0, 3}, {2, 3, 1}}, api.ErrArg},
		{three(), api.OK},
		{square(7), api.OK},
		{square(8), api.ErrLarge},
		{make([][]int, 7), api.ErrArg},
		{make([][]int, 8), api.ErrLarge},
	} {
		if e := Validate(c.ways); e != c.want {
			t.Errorf("%d: %v, want %v", i, e, c.want)
		}
	}
}

// P8.1: the stops of n places are the numbers 1 to n - 1; all lists of numbers near them are tried.
func TestTours(t *testing.T) {
	for n := 1; n <= 4; n++ {
		ways := square(n)
		for size := range n + 1 {
			list := make([]int, size)
			var fill func(place int)
			fill = func(place int) {
				if place < size {
					for number := -1; number <= n; number++ {
						list[place] = number
						fill(place + 1)
					}
					return
				}
				want := api.OK
				if sorted := slices.Sorted(slices.Values(list)); size > 0 && (sorted[0] < 1 || sorted[size-1] >= n) {
					want = api.ErrNone
				} else if len(slices.Compact(sorted)) < size {
					want = api.ErrTwice
				}
				if _, e := Length(ways, list); e != want {
					t.Errorf("Length of %v among %d places: %v, want %v", list, n, e, want)
				}
			}
			fill(0)
		}
	}
}

// P8.2: Length of tours that are known.
func TestLengthExamples(t *testing.T) {
	for _, c := range []struct {
		ways [][]int
		tour []int
		want int
	}{
		{three(), nil, 0},
		{three(), []int{}, 0},
		{three(), []int{1}, 6},
		{three(), []int{2}, 8},
		{three(), []int{1, 2}, 12},
		{three(), []int{2, 1}, 12},
		{square(1), nil, 0},
		{onLine(0, 7), []int{1}, 14},
		{onLine(0, 1, 2, 10, 11), []int{1, 2, 3, 4}, 22},
		{onLine(0, 1, 2, 10, 11), []int{3, 1, 4, 2}, 10 + 9 + 10 + 9 + 2},
		{good().ways, []int{1, 3, 2}, 3 + 2 + 6 + 4},
		{good().ways, []int{3}, 18},
	} {
		if n, e := Length(c.ways, c.tour); n != c.want || e != api.OK {
			t.Errorf("Length of %v by %v: %d, %v, want %d", c.tour, c.ways, n, e, c.want)
		}
	}
}

// P8.2: Length is the sum of the ways, and that of the reversed tour.
func TestLength(t *testing.T) {
	r := rand.New(rand.NewSource(92))
	forWays(func(ways [][]int) {
		tour := someTour(r, len(ways))
		want := 0
		places := slices.Concat([]int{0}, tour, []int{0})
		for i := range places[1:] {
			want += ways[places[i]][places[i+1]]
		}
		n, e := Length(ways, tour)
		slices.Reverse(tour)
		m, f := Length(ways, tour)
		if n != want || m != want || e != api.OK || f != api.OK {
			t.Fatalf("Length of %v by %v: %d, %v, reversed %d, %v, want %d", tour, ways, n, e, m, f, want)
		}
	})
}

// P8.2: Round of ways that are known, among them equally near ones.
func TestRoundExamples(t *testing.T) {
	for _, c := range []struct {
		ways  [][]int
		first int
		want  []int
	}{
		{onLine(0, 7), 1, []int{1}},
		{three(), 1, []int{1, 2}},
		{three(), 2, []int{2, 1}},
		{onLine(0, 1, 2, 10, 11), 3, []int{3, 4, 2, 1}},
		{onLine(0, 1, 2, 10, 11), 2, []int{2, 1, 3, 4}},
		{onLine(0, 4, 5, 3, 6), 1, []int{1, 2, 4, 3}},
		{onLine(0, 4, 3, 5, 6), 1, []int{1, 2, 3, 4}},
		{square(7), 4, []int{4, 1, 2, 3, 5, 6}},
		{square(7), 6, []int{6, 1, 2, 3, 4, 5}},
	} {
		if tour, e := Round(c.ways, c.first); !slices.Equal(tour, c.want) || e != api.OK {
			t.Errorf("Round from %d by %v: %v, %v, want %v", c.first, c.ways, tour, e, c.want)
		}
	}
}

// P8.2: in Round each stop is the nearest one to the stop before of those that come behind it, and of equally near ones the smallest.
func TestRound(t *testing.T) {
	ties := 0
	forWays(func(ways [][]int) {
		for first := 1; first < len(ways); first++ {
			tour, e := Round(ways, first)
			if e != api.OK || !isAllStops(tour, len(ways)) || tour[0] != first {
				t.Fatalf("Round from %d by %v: %v, %v", first, ways, tour, e)
			}
			for i := range tour[1:] {
				from, to := tour[i], tour[i+1]
				for _, other := range tour[i+2:] {
					if ways[from][other] == ways[from][to] {
						ties++
					}
					if ways[from][other] < ways[from][to] || ways[from][other] == ways[from][to] && other < to {
						t.Fatalf("Round from %d by %v: %v, but %d is before %d", first, ways, tour, other, to)
					}
				}
			}
		}
	})
	if ties < 1000 {
		t.Errorf("only %d equally near ones", ties)
	}
}

// P8.2: the kitchen alone has no stop to begin with.
func TestRoundOfNone(t *testing.T) {
	for first := -1; first <= 2; first++ {
		if tour, e := Round(square(1), first); len(tour) != 0 || e != api.ErrNone {
			t.Errorf("Round from %d without stops: %v, %v", first, tour, e)
		}
	}
}
