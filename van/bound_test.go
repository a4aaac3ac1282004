package van

import (
	"math/rand"
	"slices"
	"testing"

	"canteen/api"
)

// leastTree returns the smallest sum of a tree of the places from first on, of all trees: each place but the first has a way to another one, by which it comes to the first in the end.
func leastTree(table [][]int, first int) int {
	n := len(table)
	least, has := 0, false
	next := make([]int, n)
	comes := func(place int) bool {
		for range n {
			if place == first {
				return true
			}
			place = next[place]
		}
		return false
	}
	var choose func(place, sum int)
	choose = func(place, sum int) {
		if place < n {
			for to := first; to < n; to++ {
				if to != place {
					next[place] = to
					choose(place+1, sum+table[place][to])
				}
			}
			return
		}
		for p := first; p < n; p++ {
			if !comes(p) {
				return
			}
		}
		if !has || sum < least {
			least, has = sum, true
		}
	}
	choose(first+1, 0)
	return least
}

// boundOfTrees returns the bound of potentials by its definition.
func boundOfTrees(ways [][]int, potentials []int) int {
	n := len(ways)
	table := square(n)
	sum := 0
	for i := range n {
		sum += potentials[i]
		for j := range n {
			table[i][j] = ways[i][j] + potentials[i] + potentials[j]
		}
	}
	fromKitchen := slices.Sorted(slices.Values(table[0][1:]))
	return leastTree(table, 1) + fromKitchen[0] + fromKitchen[1] - 2*sum
}

// somePotentials are potentials of n places, up to most.
func somePotentials(r *rand.Rand, n, most int) []int {
	var p []int
	for range n {
		p = append(p, r.Intn(2*most+1)-most)
	}
	return p
}

// forPotentials goes through ways of three or more places, each with some potentials.
func forPotentials(do func(ways [][]int, potentials []int)) {
	r := rand.New(rand.NewSource(95))
	forWays(func(ways [][]int) {
		if len(ways) >= 3 {
			for _, most := range []int{0, 2, 20, 1000} {
				do(ways, somePotentials(r, len(ways), most))
			}
		}
	})
}

// P8.3: Tree is the smallest sum of all trees.
func TestTree(t *testing.T) {
	large := 0
	forWays(func(ways [][]int) {
		if len(ways) == 7 {
			if large++; large > 20 {
				return
			}
		}
		want := leastTree(ways, 0)
		if n, e := Tree(ways); n != want || e != api.OK {
			t.Fatalf("Tree of %v: %d, %v, want %d", ways, n, e, want)
		}
	})
}

// P8.3: Tree of ways that are known.
func TestTreeExamples(t *testing.T) {
	for _, c := range []struct {
		ways [][]int
		want int
	}{
		{square(1), 0},
		{onLine(0, 7), 7},
		{three(), 7},
		{onLine(0, 1, 2, 10, 11), 11},
		{onLine(5, 0, 9, 1, 10, 3), 10},
		{good().ways, 3 + 2 + 4},
		{ring(7), 6},
		{square(7), 0},
	} {
		if n, e := Tree(c.ways); n != c.want || e != api.OK {
			t.Errorf("Tree of %v: %d, %v, want %d", c.ways, n, e, c.want)
		}
	}
}

// P8.3 and S6: Bound by its definition, which no tour is below.
func TestBound(t *testing.T) {
	differ := 0
	forPotentials(func(ways [][]int, potentials []int) {
		want := boundOfTrees(ways, potentials)
		bound, e := Bound(ways, potentials)
		if bound != want || e != api.OK {
			t.Fatalf("Bound of %v with %v: %d, %v, want %d", ways, potentials, bound, e, want)
		}
		shortest, _ := Shortest(ways)
		if bound > shortest {
			t.Fatalf("Bound of %v with %v is %d, but there is a tour of %d", ways, potentials, bound, shortest)
		}
		if bound < shortest {
			differ++
		}
	})
	if differ < 500 {
		t.Errorf("only %d bounds are below the shortest tour", differ)
	}
}

// P8.3: bounds that are known.
func TestBoundExamples(t *testing.T) {
	for _, c := range []struct {
		ways       [][]int
		potentials []int
		want       int
	}{
		{three(), []int{0, 0, 0}, 12},
		{three(), []int{5, -3, 100}, 12},
		{three(), []int{-1000, 1000, 1000}, 12},
		{onLine(0, 1, 2, 10, 11), []int{0, 0, 0, 0, 0}, 10 + 1 + 2},
		// the tree is 2-1 and 1-3, then the ways to 2 and 1: 3 + 2 + 3 + 4
		{onLine(0, 3, 4, 6), []int{0, 0, 0, 0}, 1 + 2 + 3 + 4},
		// 1-2: 1 + 0, 1-3: 3 - 5, 2-3: 2 - 5; from the kitchen 6 - 5 and 3; less twice -5
		{onLine(0, 3, 4, 6), []int{0, 0, 0, -5}, -3 - 2 + 1 + 3 + 10},
		{square(7), []int{0, 1, 2, 3, 4, 5, 6}, 3 + 4 + 5 + 6 + 7 + 1 + 2 - 42},
		{square(7), []int{1000, 1000, 1000, 1000, 1000, 1000, 1000}, 0},
		{square(7), []int{1000, -1000, -1000, -1000, -1000, -1000, 1000}, -8000 + 0 + 0 + 0 + 6000},
	} {
		if n, e := Bound(c.ways, c.potentials); n != c.want || e != api.OK {
			t.Errorf("Bound of %v with %v: %d, %v, want %d", c.ways, c.potentials, n, e, c.want)
		}
	}
}

// improves checks that Improve returns potentials with a bound that is at least that of the given ones and that of zeros, and returns the three bounds and the potentials.
func improves(t *testing.T, ways [][]int, potentials []int) (given, zeros, bound int, p []int) {
	t.Helper()
	given, _ = Bound(ways, potentials)
	zeros, _ = Bound(ways, make([]int, len(ways)))
	shortest, _ := Shortest(ways)
	p, e := Improve(ways, potentials)
	bound, f := Bound(ways, p)
	if e != api.OK || f != api.OK || bound < given || bound < zeros || bound > shortest {
		t.Fatalf("Improve of %v with %v: %v, %v, with the bound %d, %v; that of the given ones is %d, that of zeros %d", ways, potentials, p, e, bound, f, given, zeros)
	}
	return given, zeros, bound, p
}

// P8.3: Improve of any potentials, and of some that are near good ones, so that now these and now zeros are better.
func TestImprove(t *testing.T) {
	r := rand.New(rand.NewSource(96))
	better, givenIsBetter, zerosAreBetter := 0, 0, 0
	count := func(given, zeros, bound int) {
		if bound > given && bound > zeros {
			better++
		}
		if given > zeros {
			givenIsBetter++
		}
		if zeros > given {
			zerosAreBetter++
		}
	}
	forPotentials(func(ways [][]int, potentials []int) {
		given, zeros, bound, p := improves(t, ways, potentials)
		count(given, zeros, bound)
		for i := range p {
			p[i] = max(-1000, min(p[i]+r.Intn(9)-4, 1000))
		}
		given, zeros, bound, _ = improves(t, ways, p)
		count(given, zeros, bound)
	})
	if better < 1000 || givenIsBetter < 500 || zerosAreBetter < 1000 {
		t.Errorf("%d are better than both; the given ones are better %d times, zeros %d times", better, givenIsBetter, zerosAreBetter)
	}
}

// P8.3: Improve of potentials at their limits, again and again.
func TestImproveAtLimits(t *testing.T) {
	r := rand.New(rand.NewSource(97))
	for range 300 {
		ways := someWays(r, 3+r.Intn(5), []int{10, 100, 1000}[r.Intn(3)])
		p := somePotentials(r, len(ways), 1000)
		for range 20 {
			_, _, _, p = improves(t, ways, p)
			p[r.Intn(len(p))] = []int{1000, -1000}[r.Intn(2)]
		}
	}
}

// P8.3 with R5: also potentials that cannot be better are returned as new memory.
func TestImproveReturnsNew(t *testing.T) {
	r := rand.New(rand.NewSource(101))
	for range 100 {
		ways := someWays(r, 3+r.Intn(5), 100)
		given, _ := Improve(ways, make([]int, len(ways)))
		want := slices.Clone(given)
		p, e := Improve(ways, given)
		for i := range p {
			p[i] = -77
		}
		if e != api.OK || !slices.Equal(given, want) {
			t.Fatalf("Improve of %v with %v: %v, and its memory is that of the given ones", ways, want, e)
		}
	}
}

// Which potentials Improve returns is free, but they are worth having: mostly their bound proves that the shortest tour is one.
func TestImproveOftenProves(t *testing.T) {
	r := rand.New(rand.NewSource(102))
	for n := 4; n <= api.MaxStops; n++ {
		proved := 0
		for range 200 {
			ways := someWays(r, n, api.MaxMinutes)
			shortest, _ := Shortest(ways)
			_, _, bound, _ := improves(t, ways, make([]int, n))
			if bound == shortest {
				proved++
			}
		}
		if proved < 150 {
			t.Errorf("of 200 shortest tours of %d places only %d are proved", n, proved)
		}
	}
}

// P8.3: fewer than three places have no bound, whatever their potentials are.
func TestBoundOfFew(t *testing.T) {
	for _, ways := range [][][]int{square(1), square(2), onLine(0, 7)} {
		for _, p := range [][]int{nil, {0}, {0, 0}, {0, 0, 0}, {0, 1001}} {
			bound, e := Bound(ways, p)
			q, f := Improve(ways, p)
			if bound != 0 || len(q) != 0 || e != api.ErrArg || f != api.ErrArg {
				t.Errorf("%v with %v: %d, %v, and %v, %v", ways, p, bound, e, q, f)
			}
		}
	}
}
