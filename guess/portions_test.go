package guess

import (
	"math/rand"
	"testing"

	"canteen/api"
)

// costByDefinition goes through everybody who was counted, portion by portion.
func costByDefinition(counts []int, over, under, q int) int {
	sum := 0
	for d, n := range counts {
		for range n {
			for range q - d {
				sum += over
			}
			for range d - q {
				sum += under
			}
		}
	}
	return sum
}

// randomCounts returns counts of which some are 0 but not all.
func randomCounts(r *rand.Rand, length, most int) []int {
	counts := make([]int, length)
	for d := range counts {
		if r.Intn(3) > 0 {
			counts[d] = r.Intn(most + 1)
		}
	}
	counts[r.Intn(length)] = most
	return counts
}

// eachPortions goes through short counts with small costs, and then through some of any size.
func eachPortions(seed int64, do func(counts []int, over, under int)) {
	r := rand.New(rand.NewSource(seed))
	for range 1500 {
		do(randomCounts(r, r.Intn(6)+1, r.Intn(3)+1), r.Intn(4), r.Intn(4))
	}
	for range 150 {
		do(randomCounts(r, r.Intn(api.MaxDemand+1)+1, r.Intn(api.MaxCount)+1), r.Intn(api.MaxCost+1), r.Intn(api.MaxCost+1))
	}
}

// P6.4: Cost and Marginal by their definitions.
func TestCost(t *testing.T) {
	r := rand.New(rand.NewSource(70))
	for range 300 {
		counts, over, under := randomCounts(r, r.Intn(5)+1, r.Intn(4)+1), r.Intn(5), r.Intn(5)
		for q := range api.MaxDemand + 1 {
			want := costByDefinition(counts, over, under, q)
			n, e := Cost(counts, over, under, q)
			if e != api.OK || n != want {
				t.Fatalf("Cost of %v with %d, %d for %d: %d, %v, want %d", counts, over, under, q, n, e, want)
			}
			more := costByDefinition(counts, over, under, q+1) - want
			if m, e := Marginal(counts, over, under, q); e != api.OK || m != more {
				t.Fatalf("Marginal of %v with %d, %d for %d: %d, %v, want %d", counts, over, under, q, m, e, more)
			}
		}
	}
}

// leastCost returns the smallest number of portions with the least cost, and the cost.
func leastCost(t *testing.T, counts []int, over, under int) (int, int) {
	t.Helper()
	best, least := -1, 0
	for q := range api.MaxDemand + 1 {
		n, e := Cost(counts, over, under, q)
		if e != api.OK {
			t.Fatalf("Cost of %v with %d, %d for %d: %v", counts, over, under, q, e)
		}
		if best < 0 || n < least {
			best, least = q, n
		}
	}
	return best, least
}

// P6.4: the smallest best number, and all that are as good.
func TestQuantityAndIsBest(t *testing.T) {
	several := 0
	eachPortions(71, func(counts []int, over, under int) {
		best, least := leastCost(t, counts, over, under)
		if q, e := Quantity(counts, over, under); e != api.OK || q != best {
			t.Fatalf("Quantity of %v with %d, %d: %d, %v, want %d", counts, over, under, q, e, best)
		}
		good := 0
		for q := range api.MaxDemand + 1 {
			n, _ := Cost(counts, over, under, q)
			is, e := IsBest(counts, over, under, q)
			if e != api.OK || is != (n == least) {
				t.Fatalf("IsBest of %v with %d, %d for %d: %v, %v", counts, over, under, q, is, e)
			}
			if is {
				good++
			}
		}
		if good > 1 {
			several++
		}
	})
	if several < 100 {
		t.Errorf("only %d with several best numbers", several)
	}
}

// P6.4: Marginal never falls, and tells which numbers are best.
func TestMarginalTellsBest(t *testing.T) {
	eachPortions(72, func(counts []int, over, under int) {
		before := 0
		for q := range api.MaxDemand + 1 {
			m, e := Marginal(counts, over, under, q)
			if e != api.OK || q > 0 && m < before {
				t.Fatalf("Marginal of %v with %d, %d for %d: %d, %v, before %d", counts, over, under, q, m, e, before)
			}
			if is, e := IsBest(counts, over, under, q); e != api.OK || is != (m >= 0 && (q == 0 || before <= 0)) {
				t.Fatalf("IsBest of %v with %d, %d for %d: %v, %v, Marginal %d and %d", counts, over, under, q, is, e, before, m)
			}
			before = m
		}
	})
}

// P6.4: the example of the chapter, and the ends of what is allowed.
func TestPortionsExamples(t *testing.T) {
	counts := []int{1, 1, 1}
	for q, want := range []int{9, 4, 3, 6, 9} {
		if n, e := Cost(counts, 1, 3, q); e != api.OK || n != want {
			t.Errorf("Cost of %d: %d, %v, want %d", q, n, e, want)
		}
	}
	all := make([]int, api.MaxDemand+1)
	for d := range all {
		all[d] = api.MaxCount
	}
	if n, e := Cost(all, api.MaxCost, 0, api.MaxDemand); e != api.OK || n != 5050*api.MaxCount*api.MaxCost {
		t.Errorf("Cost of the greatest arguments: %d, %v", n, e)
	}
	if n, e := Marginal(all, api.MaxCost, 0, api.MaxDemand); e != api.OK || n != 101*api.MaxCount*api.MaxCost {
		t.Errorf("Marginal of the greatest arguments: %d, %v", n, e)
	}
	last := append(make([]int, api.MaxDemand), 1)
	for _, c := range []struct {
		counts            []int
		over, under, want int
	}{{counts, 1, 3, 2}, {counts, 1, 1, 1}, {counts, 1, 2, 1}, {counts, 2, 1, 0}, {counts, 0, 0, 0}, {counts, 0, 1, 2}, {counts, 1, 0, 0}, {last, 1, 1, 100}, {last, 0, 0, 0}, {last, 1, 0, 0}, {[]int{1, 0, 0, 1}, 1, 1, 0}, {[]int{0, 1, 0, 1}, 1, 1, 1}, {[]int{5, 0, 0}, 0, 3, 0}} {
		if q, e := Quantity(c.counts, c.over, c.under); e != api.OK || q != c.want {
			t.Errorf("Quantity of %v with %d, %d: %d, %v, want %d", c.counts, c.over, c.under, q, e, c.want)
		}
	}
	for q, want := range map[int]bool{0: false, 1: false, 2: true, 3: true, 100: true} {
		if is, e := IsBest(counts, 0, 2, q); e != api.OK || is != want {
			t.Errorf("IsBest of %d, where none is too many: %v, %v", q, is, e)
		}
	}
}
