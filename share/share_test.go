package share

import (
	"math"
	"math/big"
	"math/rand"
	"slices"
	"testing"

	"canteen/api"
)

var kinds = []int{api.Down, api.Half, api.Up}

// stepOf returns s(k) as the chapter writes it.
func stepOf(kind, k int) int64 {
	switch kind {
	case api.Down:
		return int64(k) + 1
	case api.Half:
		return 2*int64(k) + 1
	}
	return int64(k)
}

// compareClaims compares the claims of v orders with k meals and of w orders with l meals by the chapter's words.
func compareClaims(kind, v, k, w, l int) int {
	first, second := stepOf(kind, k), stepOf(kind, l)
	switch {
	case first == 0 && second == 0:
		return big.NewInt(int64(v)).Cmp(big.NewInt(int64(w)))
	case first == 0:
		return 1
	case second == 0:
		return -1
	}
	return big.NewRat(int64(v), first).Cmp(big.NewRat(int64(w), second))
}

// plainClaimer looks for the school whose claim no other one's is above.
func plainClaimer(orders, meals []int, kind int) int {
	best := 0
	for i := range orders {
		if compareClaims(kind, orders[i], meals[i], orders[best], meals[best]) > 0 {
			best = i
		}
	}
	return best
}

// plainGiver looks for the school whose claim with one meal less no other one's is below.
func plainGiver(orders, meals []int, kind int) (int, bool) {
	last := -1
	for i := range orders {
		if meals[i] > 0 && (last < 0 || compareClaims(kind, orders[i], meals[i]-1, orders[last], meals[last]-1) <= 0) {
			last = i
		}
	}
	return max(last, 0), last >= 0
}

// someOrders returns valid orders of so many schools, often with equal ones.
func someOrders(r *rand.Rand, schools int) []int {
	top := []int{2, 6, 30, 1000, api.MaxOrders}[r.Intn(5)]
	var l []int
	for range schools {
		l = append(l, r.Intn(top)+1)
	}
	return l
}

// someMeals returns meals of so many schools.
func someMeals(r *rand.Rand, schools int) []int {
	top := []int{1, 3, 10, api.MaxMeals}[r.Intn(4)]
	var l []int
	for range schools {
		l = append(l, r.Intn(top+1))
	}
	return l
}

// total returns the sum of a list.
func total(l []int) int {
	t := 0
	for _, x := range l {
		t += x
	}
	return t
}

// lists returns all lists of a length with numbers from low to high.
func lists(length, low, high int) [][]int {
	if length == 0 {
		return [][]int{{}}
	}
	var all [][]int
	for _, l := range lists(length-1, low, high) {
		for x := low; x <= high; x++ {
			all = append(all, append(slices.Clone(l), x))
		}
	}
	return all
}

// divisions returns all ways to give n meals to so many schools.
func divisions(schools, n int) [][]int {
	if schools == 1 {
		return [][]int{{n}}
	}
	var all [][]int
	for first := 0; first <= n; first++ {
		for _, l := range divisions(schools-1, n-first) {
			all = append(all, append([]int{first}, l...))
		}
	}
	return all
}

// divided is Divide where no error is expected.
func divided(t *testing.T, orders []int, n, kind int) []int {
	t.Helper()
	l, e := Divide(orders, n, kind)
	if e != api.OK || len(l) != len(orders) {
		t.Fatalf("Divide of %d among %v by %d: %v, %v", n, orders, kind, l, e)
	}
	return l
}

// P4.1
func TestValidate(t *testing.T) {
	for _, x := range []struct {
		orders []int
		want   api.Errno
	}{
		{nil, api.ErrArg},
		{[]int{}, api.ErrArg},
		{[]int{1}, api.OK},
		{[]int{api.MaxOrders}, api.OK},
		{[]int{0}, api.ErrArg},
		{[]int{api.MaxOrders + 1}, api.ErrArg},
		{[]int{5, 0}, api.ErrArg},
		{[]int{5, -5, 5}, api.ErrArg},
		{[]int{5, math.MaxInt}, api.ErrArg},
		{[]int{math.MinInt, 5}, api.ErrArg},
		{[]int{1, 1, 1, 1, 1, 1, 1, 1}, api.OK},
		{[]int{1, 1, 1, 1, 1, 1, 1, 1, 1}, api.ErrArg},
		{[]int{3, 1, 2, 3}, api.OK},
	} {
		if e := Validate(x.orders); e != x.want {
			t.Errorf("Validate of %v: %v, want %v", x.orders, e, x.want)
		}
	}
}

// P4.1: ordinary inputs, worked out by hand.
func TestDivide(t *testing.T) {
	for _, x := range []struct {
		orders  []int
		n, kind int
		want    []int
		order   []int
	}{
		{[]int{600, 300, 100}, 10, api.Down, []int{6, 3, 1}, []int{0, 0, 1, 0, 0, 1, 0, 0, 1, 2}},
		{[]int{600, 300, 100}, 10, api.Half, []int{6, 3, 1}, []int{0, 1, 0, 0, 1, 2, 0, 0, 1, 0}},
		{[]int{600, 300, 100}, 10, api.Up, []int{6, 3, 1}, []int{0, 1, 2, 0, 0, 1, 0, 0, 1, 0}},
		{[]int{7, 2, 1}, 6, api.Down, []int{5, 1, 0}, []int{0, 0, 0, 1, 0, 0}},
		{[]int{7, 2, 1}, 6, api.Half, []int{4, 1, 1}, []int{0, 0, 1, 0, 0, 2}},
		{[]int{7, 2, 1}, 6, api.Up, []int{4, 1, 1}, []int{0, 1, 2, 0, 0, 0}},
		{[]int{3, 3, 3}, 4, api.Half, []int{2, 1, 1}, []int{0, 1, 2, 0}},
		{[]int{1, 2, 2}, 3, api.Up, []int{1, 1, 1}, []int{1, 2, 0}},
		{[]int{2, 1}, 2, api.Down, []int{2, 0}, []int{0, 0}},
		{[]int{1, 2}, 2, api.Down, []int{1, 1}, []int{1, 0}},
		{[]int{1, 3}, 2, api.Half, []int{1, 1}, []int{1, 0}},
		{[]int{4}, 3, api.Up, []int{3}, []int{0, 0, 0}},
		{[]int{4, 5}, 0, api.Down, []int{0, 0}, nil},
	} {
		if l := divided(t, x.orders, x.n, x.kind); !slices.Equal(l, x.want) {
			t.Errorf("Divide of %d among %v by %d: %v, want %v", x.n, x.orders, x.kind, l, x.want)
		}
		if l, e := Order(x.orders, x.n, x.kind); e != api.OK || !slices.Equal(l, x.order) {
			t.Errorf("Order of %d among %v by %d: %v, %v, want %v", x.n, x.orders, x.kind, l, e, x.order)
		}
	}
}

// P4.1: meal by meal as the chapter says it, and its consequence.
func TestDivideOneAfterAnother(t *testing.T) {
	r := rand.New(rand.NewSource(41))
	for range 600 {
		orders := someOrders(r, r.Intn(api.MaxSchools)+1)
		kind, n := r.Intn(3), r.Intn(40)
		meals := make([]int, len(orders))
		var order []int
		for m := range n {
			i := plainClaimer(orders, meals, kind)
			if got, e := Claimer(orders, meals, kind); e != api.OK || got != i {
				t.Fatalf("Claimer of %v with %v by %d: %v, %v, want %d", orders, meals, kind, got, e, i)
			}
			meals[i]++
			order = append(order, i)
			if l := divided(t, orders, m+1, kind); !slices.Equal(l, meals) {
				t.Fatalf("Divide of %d among %v by %d: %v, want %v", m+1, orders, kind, l, meals)
			}
			if g, is, e := Giver(orders, meals, kind); g != i || !is || e != api.OK {
				t.Fatalf("Giver of %v with %v by %d: %v, %v, %v, want the last one, %d", orders, meals, kind, g, is, e, i)
			}
		}
		if l, e := Order(orders, n, kind); e != api.OK || !slices.Equal(l, order) {
			t.Fatalf("Order of %d among %v by %d: %v, %v, want %v", n, orders, kind, l, e, order)
		}
	}
}

// P4.1: Claimer and Giver for any meals, also for those that nobody would divide so.
func TestClaimerAndGiver(t *testing.T) {
	check := func(orders, meals []int, kind int) {
		if i, e := Claimer(orders, meals, kind); e != api.OK || i != plainClaimer(orders, meals, kind) {
			t.Fatalf("Claimer of %v with %v by %d: %v, %v", orders, meals, kind, i, e)
		}
		want, some := plainGiver(orders, meals, kind)
		if i, is, e := Giver(orders, meals, kind); e != api.OK || i != want || is != some {
			t.Fatalf("Giver of %v with %v by %d: %v, %v, %v, want %d, %v", orders, meals, kind, i, is, e, want, some)
		}
	}
	for _, kind := range kinds {
		for _, orders := range lists(3, 1, 4) {
			for _, meals := range lists(3, 0, 3) {
				check(orders, meals, kind)
			}
		}
	}
	r := rand.New(rand.NewSource(42))
	for range 5000 {
		schools := r.Intn(api.MaxSchools) + 1
		check(someOrders(r, schools), someMeals(r, schools), r.Intn(3))
	}
}

// P4.1: the edge cases of claims that the chapter names.
func TestEqualClaims(t *testing.T) {
	for _, x := range []struct {
		orders, meals  []int
		kind           int
		claimer, giver int
		some           bool
	}{
		{[]int{5, 5, 5}, []int{1, 1, 1}, api.Down, 0, 2, true},
		{[]int{2, 4}, []int{1, 3}, api.Down, 0, 1, true},      // 2/2 and 4/4; 2/1 and 4/3
		{[]int{1, 2}, []int{1, 2}, api.Up, 0, 1, true},        // 1/1 and 2/2; greater than every number, and 2/1
		{[]int{3, 9, 9}, []int{0, 0, 0}, api.Up, 1, 0, false}, // three claims above every number
		{[]int{3, 9, 9}, []int{1, 1, 1}, api.Up, 1, 0, true},
		{[]int{9, 3, 3}, []int{1, 1, 1}, api.Up, 0, 2, true},
		{[]int{api.MaxOrders, 1}, []int{1, 0}, api.Up, 1, 0, true},
		{[]int{api.MaxOrders, 1}, []int{1000, 0}, api.Half, 0, 0, true},
		{[]int{7}, []int{0}, api.Half, 0, 0, false},
		{[]int{7}, []int{1}, api.Half, 0, 0, true},
		{[]int{api.MaxOrders, api.MaxOrders - 1}, []int{999, 999}, api.Down, 0, 1, true},
		{[]int{api.MaxOrders - 1, api.MaxOrders}, []int{1000, 1000}, api.Half, 1, 0, true},
	} {
		if i, e := Claimer(x.orders, x.meals, x.kind); e != api.OK || i != x.claimer {
			t.Errorf("Claimer of %v with %v by %d: %v, %v", x.orders, x.meals, x.kind, i, e)
		}
		if i, is, e := Giver(x.orders, x.meals, x.kind); e != api.OK || i != x.giver || is != x.some {
			t.Errorf("Giver of %v with %v by %d: %v, %v, %v", x.orders, x.meals, x.kind, i, is, e)
		}
	}
}

// P4.4
func TestSome(t *testing.T) {
	r := rand.New(rand.NewSource(44))
	for range 3000 {
		orders := someOrders(r, r.Intn(api.MaxSchools)+1)
		n, kind := r.Intn(60), r.Intn(3)
		var schools, theirs []int
		for i, v := range orders {
			if r.Intn(2) == 0 {
				schools, theirs = append(schools, i), append(theirs, v)
			}
		}
		if len(schools) == 0 {
			continue
		}
		l, e := Some(orders, schools, n, kind)
		if e != api.OK || !slices.Equal(l, divided(t, theirs, n, kind)) {
			t.Fatalf("Some of %d among %v of %v by %d: %v, %v", n, schools, orders, kind, l, e)
		}
		all := divided(t, orders, n, kind)
		var had []int
		for _, i := range schools {
			had = append(had, all[i])
		}
		if l, e := Some(orders, schools, total(had), kind); e != api.OK || !slices.Equal(l, had) {
			t.Fatalf("Some of %d among %v of %v by %d: %v, %v, but of %d all get %v", total(had), schools, orders, kind, l, e, n, all)
		}
	}
}

// P4.4: invalid schools, and the edges.
func TestSomeSchools(t *testing.T) {
	orders := []int{7, 2, 1}
	for _, schools := range [][]int{nil, {}, {-1}, {3}, {0, 3}, {-1, 0}, {0, 0}, {1, 0}, {0, 2, 1}, {0, 1, 2, 3}, {math.MinInt}, {math.MaxInt}, {0, math.MaxInt}, {math.MinInt, math.MaxInt}} {
		if l, e := Some(orders, schools, 5, api.Half); e != api.ErrArg || len(l) != 0 {
			t.Errorf("Some for the schools %v: %v, %v", schools, l, e)
		}
	}
	for _, x := range []struct {
		schools []int
		n       int
		want    []int
	}{{[]int{0, 1, 2}, 6, []int{4, 1, 1}}, {[]int{2}, 6, []int{6}}, {[]int{1, 2}, 0, []int{0, 0}}, {[]int{0, 2}, 5, []int{4, 1}}, {[]int{1}, api.MaxMeals, []int{api.MaxMeals}}} {
		if l, e := Some(orders, x.schools, x.n, api.Half); e != api.OK || !slices.Equal(l, x.want) {
			t.Errorf("Some of %d for the schools %v: %v, %v", x.n, x.schools, l, e)
		}
	}
}

// P4.4
func TestBest(t *testing.T) {
	r := rand.New(rand.NewSource(45))
	for range 1000 {
		orders, n := someOrders(r, r.Intn(api.MaxSchools)+1), r.Intn(100)
		best, e := Best(orders, n)
		if e != api.OK {
			t.Fatalf("Best of %d among %v: %v", n, orders, e)
		}
		for kind, l := range best {
			if !slices.Equal(l, divided(t, orders, n, kind)) {
				t.Fatalf("Best of %d among %v by %d: %v", n, orders, kind, l)
			}
		}
		for i := range orders {
			down, up := bounds(orders, n, i)
			if best[api.Down][i] < down || best[api.Up][i] > up {
				t.Fatalf("Best of %d among %v: %v, but the quota of %d is from %d to %d", n, orders, best, i, down, up)
			}
		}
	}
}

// S3: more meals never take one away from a school.
func TestMoreMeals(t *testing.T) {
	r := rand.New(rand.NewSource(3))
	for range 4 {
		orders := someOrders(r, api.MaxSchools)
		for _, kind := range kinds {
			before := make([]int, len(orders))
			for n := range api.MaxMeals + 1 {
				now := divided(t, orders, n, kind)
				more := 0
				for i := range now {
					if now[i] < before[i] {
						t.Fatalf("%d among %v by %d: %v, but before %v", n, orders, kind, now, before)
					}
					more += now[i] - before[i]
				}
				if more != min(n, 1) {
					t.Fatalf("%d among %v by %d: %v, but before %v", n, orders, kind, now, before)
				}
				before = now
			}
		}
	}
}
