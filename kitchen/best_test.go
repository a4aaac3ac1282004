package kitchen

import (
	"math"
	"math/rand"
	"slices"
	"testing"

	"canteen/api"
)

// forSomeBatches goes through lists of batches, small and large.
func forSomeBatches(do func(l []api.Batch)) {
	for n := range 4 {
		smallBatches(n, 5-n, do)
	}
	smallBatches(4, 1, do)
	r := rand.New(rand.NewSource(83))
	for n := 1; n <= api.MaxBatches; n++ {
		for _, most := range []int{2, 10, api.MaxMinutes} {
			for range 12 {
				do(someBatches(r, n, most))
			}
		}
	}
}

// leastBySums returns the smallest time of all orders, of which each time is the greatest sum.
func leastBySums(l []api.Batch) int {
	if len(l) == 0 {
		return 0
	}
	least := math.MaxInt
	for _, order := range orders(len(l)) {
		time := 0
		for place := range order {
			time = max(time, wholeAt(l, order, place))
		}
		least = min(least, time)
	}
	return least
}

// P7.3 and S6: Least is the smallest time of all orders, and Best is an order with it.
func TestBest(t *testing.T) {
	forSomeBatches(func(l []api.Batch) {
		want := leastBySums(l)
		if time, e := Least(l); e != api.OK || time != want {
			t.Fatalf("Least of %v: %d, %v, want %d", l, time, e, want)
		}
		order, e := Best(l)
		if e != api.OK {
			t.Fatalf("Best of %v: %v", l, e)
		}
		if time, e := Time(l, order); e != api.OK || time != want {
			t.Fatalf("Best of %v: %v, with the time %d, %v, want %d", l, order, time, e, want)
		}
	})
}

// boundNumbers are the chapter's three numbers of which the bound is the greatest.
func boundNumbers(l []api.Batch) []int {
	var cooks, packs, both []int
	sumCook, sumPack := 0, 0
	for _, b := range l {
		cooks, packs, both = append(cooks, b.Cook), append(packs, b.Pack), append(both, b.Cook+b.Pack)
		sumCook += b.Cook
		sumPack += b.Pack
	}
	return []int{sumCook + slices.Min(packs), slices.Min(cooks) + sumPack, slices.Max(both)}
}

// P7.3 and S6: Bound by its definition, in which each of the three numbers decides alone; no order is sooner, and some are later.
func TestBound(t *testing.T) {
	var alone [3]int
	later := 0
	forSomeBatches(func(l []api.Batch) {
		if len(l) == 0 {
			return
		}
		three := boundNumbers(l)
		want := slices.Max(three)
		if which := slices.Index(three, want); !slices.Contains(three[which+1:], want) {
			alone[which]++
		}
		bound, e := Bound(l)
		if e != api.OK || bound != want {
			t.Fatalf("Bound of %v: %d, %v, want %d", l, bound, e, want)
		}
		least, _ := Least(l)
		if bound > least {
			t.Fatalf("Bound of %v is %d, but the time %d is possible", l, bound, least)
		}
		if bound < least {
			later++
		}
	})
	if slices.Min(alone[:]) < 30 || later < 30 {
		t.Errorf("%v decide alone, %d are later: too much alike", alone, later)
	}
}

// P7.3: bounds that are known.
func TestBoundExamples(t *testing.T) {
	for _, c := range []struct {
		l            []api.Batch
		bound, least int
	}{
		{nil, 0, 0},
		{[]api.Batch{{}}, 0, 0},
		{[]api.Batch{{Cook: 4, Pack: 5}}, 9, 9},
		{[]api.Batch{{Cook: 1000, Pack: 1000}}, 2000, 2000},
		{slices.Repeat([]api.Batch{{Cook: 1000, Pack: 1000}}, 7), 8000, 8000},
		{good().l, 18, 18},
		{[]api.Batch{{Cook: 9, Pack: 9}, {Cook: 1, Pack: 1}}, 18, 19},
		{[]api.Batch{{Cook: 9, Pack: 2}, {Cook: 8, Pack: 1}}, 18, 18},
		{[]api.Batch{{Cook: 2, Pack: 9}, {Cook: 1, Pack: 8}}, 18, 18},
	} {
		bound, e := Bound(c.l)
		least, f := Least(c.l)
		if bound != c.bound || least != c.least || e != api.OK || f != api.OK {
			t.Errorf("%v: the bound %d, %v, and the time %d, %v, want %d and %d", c.l, bound, e, least, f, c.bound, c.least)
		}
	}
}

// P7.4: Before by its definition, which for batches says that the two take no longer in this order.
func TestBefore(t *testing.T) {
	smallBatches(2, 4, func(l []api.Batch) {
		first, _ := Time(l, []int{0, 1})
		second, _ := Time(l, []int{1, 0})
		if is := Before(l[0], l[1]); is != (first <= second) {
			t.Errorf("Before of %v: %v, with the times %d and %d", l, is, first, second)
		}
	})
	numbers := []int{math.MinInt, math.MinInt + 1, -5, -1, 0, 1, 1001, math.MaxInt - 1, math.MaxInt}
	r := rand.New(rand.NewSource(84))
	for range 20000 {
		var x [4]int
		for i := range x {
			x[i] = numbers[r.Intn(len(numbers))]
		}
		a, b := api.Batch{Cook: x[0], Pack: x[1]}, api.Batch{Cook: x[2], Pack: x[3]}
		// a minimum is at most another one if one of its numbers is at most both of the other
		want := a.Cook <= b.Cook && a.Cook <= a.Pack || b.Pack <= b.Cook && b.Pack <= a.Pack
		if is := Before(a, b); is != want {
			t.Fatalf("Before of %v and %v: %v", a, b, is)
		}
	}
}

// P7.4: Sorted looks at all pairs of places; a sorted order has the smallest time.
func TestSorted(t *testing.T) {
	sorted, onlyNeighbours, many := 0, 0, 0
	forBatches(func(l []api.Batch, order []int) {
		want, neighbours := true, true
		for earlier := range order {
			for later := earlier + 1; later < len(order); later++ {
				if !Before(l[order[earlier]], l[order[later]]) {
					want = false
					neighbours = neighbours && later > earlier+1
				}
			}
		}
		is, e := Sorted(l, order)
		if e != api.OK || is != want {
			t.Fatalf("Sorted of %v in the order %v: %v, %v, want %v", l, order, is, e, want)
		}
		if !want && neighbours {
			onlyNeighbours++
		}
		if want {
			sorted++
			if len(l) > 3 {
				many++
			}
			time, _ := Time(l, order)
			if least, _ := Least(l); time != least {
				t.Fatalf("%v in the order %v is sorted, but takes %d, and not %d", l, order, time, least)
			}
		}
	})
	if sorted < 1000 || onlyNeighbours < 10 || many < 5 {
		t.Errorf("%d are sorted, %d only by neighbours, %d are many", sorted, onlyNeighbours, many)
	}
}

// rule puts batches into the order of a known rule: first those that are packed no faster than cooked, the fast to cook first; then the others, the slow to pack first.
func rule(l []api.Batch) []int {
	var first, second []int
	for number, b := range l {
		if b.Cook <= b.Pack {
			first = append(first, number)
		} else {
			second = append(second, number)
		}
	}
	slices.SortStableFunc(first, func(a, b int) int { return l[a].Cook - l[b].Cook })
	slices.SortStableFunc(second, func(a, b int) int { return l[b].Pack - l[a].Pack })
	return append(first, second...)
}

// P7.3, P7.4 and S6: the order of the known rule is sorted, and has the time of Best, also with as many batches as there can be.
func TestRule(t *testing.T) {
	r := rand.New(rand.NewSource(85))
	for n := range api.MaxBatches + 1 {
		for _, most := range []int{1, 3, 20, api.MaxMinutes} {
			for range 25 {
				l := someBatches(r, n, most)
				order := rule(l)
				is, e := Sorted(l, order)
				time, f := Time(l, order)
				least, g := Least(l)
				if !is || time != least || e != api.OK || f != api.OK || g != api.OK {
					t.Fatalf("%v in the order %v: sorted %v, the time %d, want %d", l, order, is, time, least)
				}
			}
		}
	}
}

// P7.4: Sorted where the batches are none, one, or alike.
func TestSortedExamples(t *testing.T) {
	l := good().l
	// the second of these batches goes with both others, but they do not go with each other
	tied := []api.Batch{{Cook: 2, Pack: 1}, {Cook: 0, Pack: 0}, {Cook: 1, Pack: 2}}
	for _, c := range []struct {
		l     []api.Batch
		order []int
		want  bool
	}{
		{nil, nil, true},
		{l[:1], []int{0}, true},
		{slices.Repeat(l[:1], 3), []int{2, 0, 1}, true},
		{l, []int{0, 2, 1}, true},
		{l, []int{2, 0, 1}, false},
		{l, []int{0, 1, 2}, false},
		{tied, []int{0, 1, 2}, false},
		{tied, []int{1, 2, 0}, true},
		{tied, []int{2, 1, 0}, true},
		{tied, []int{2, 0, 1}, true},
	} {
		if is, e := Sorted(c.l, c.order); e != api.OK || is != c.want {
			t.Errorf("Sorted of %v in the order %v: %v, %v, want %v", c.l, c.order, is, e, c.want)
		}
	}
}

// P7.4: Reverse exchanges the two numbers of each batch, and Least stays.
func TestReverse(t *testing.T) {
	forSomeBatches(func(l []api.Batch) {
		reversed, e := Reverse(l)
		if e != api.OK || len(reversed) != len(l) {
			t.Fatalf("Reverse of %v: %v, %v", l, reversed, e)
		}
		for number := range l {
			if reversed[number].Cook != l[number].Pack || reversed[number].Pack != l[number].Cook {
				t.Fatalf("Reverse of %v: %v", l, reversed)
			}
		}
		least, _ := Least(l)
		if again, e := Least(reversed); e != api.OK || again != least {
			t.Fatalf("Least of %v: %d, %v, but that of %v is %d", reversed, again, e, l, least)
		}
	})
}
