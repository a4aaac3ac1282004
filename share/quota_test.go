package share

import (
	"math"
	"math/big"
	"math/rand"
	"slices"
	"testing"

	"canteen/api"
)

// quotaOf returns the quota of a school of n meals.
func quotaOf(orders []int, n, school int) *big.Rat {
	return big.NewRat(int64(n)*int64(orders[school]), int64(total(orders)))
}

// bounds returns the quota of a school rounded down and up.
func bounds(orders []int, n, school int) (down, up int) {
	q := quotaOf(orders, n, school)
	down = int(new(big.Int).Div(q.Num(), q.Denom()).Int64())
	if q.IsInt() {
		return down, down
	}
	return down, down + 1
}

// isRat reports whether a result is the number wanted, in lowest terms.
func isRat(got api.Rat, want *big.Rat) bool {
	return int64(got.Num) == want.Num().Int64() && int64(got.Den) == want.Denom().Int64()
}

// plainRemainders gives the meals that are left one by one to the school that lacks most and has got none of them.
func plainRemainders(orders []int, n int) []int {
	meals := make([]int, len(orders))
	for i := range orders {
		meals[i], _ = bounds(orders, n, i)
	}
	got := make([]bool, len(orders))
	for left := n - total(meals); left > 0; left-- {
		best := -1
		var most *big.Rat
		for i := range orders {
			lacks := new(big.Rat).Sub(quotaOf(orders, n, i), big.NewRat(int64(meals[i]), 1))
			if !got[i] && (best < 0 || lacks.Cmp(most) > 0) {
				best, most = i, lacks
			}
		}
		got[best] = true
		meals[best]++
	}
	return meals
}

// plainError adds the absolute differences.
func plainError(orders, meals []int) *big.Rat {
	all := new(big.Rat)
	for i, k := range meals {
		d := new(big.Rat).Sub(big.NewRat(int64(k), 1), quotaOf(orders, total(meals), i))
		all.Add(all, d.Abs(d))
	}
	return all
}

// P4.3
func TestQuota(t *testing.T) {
	r := rand.New(rand.NewSource(50))
	for range 3000 {
		orders, n := someOrders(r, r.Intn(api.MaxSchools)+1), r.Intn(api.MaxMeals+1)
		school := r.Intn(len(orders))
		if q, e := Quota(orders, n, school); e != api.OK || !isRat(q, quotaOf(orders, n, school)) {
			t.Fatalf("Quota of %d among %v for %d: %v, %v", n, orders, school, q, e)
		}
	}
}

// P4.3: ordinary inputs, the edges and invalid inputs.
func TestQuotaEdges(t *testing.T) {
	eight := slices.Repeat([]int{api.MaxOrders}, api.MaxSchools)
	for _, x := range []struct {
		orders    []int
		n, school int
		want      api.Rat
		e         api.Errno
	}{
		{[]int{7, 2, 1}, 6, 0, api.Rat{Num: 21, Den: 5}, api.OK},
		{[]int{7, 2, 1}, 10, 1, api.Rat{Num: 2, Den: 1}, api.OK},
		{[]int{7, 2, 1}, 0, 2, api.Rat{Num: 0, Den: 1}, api.OK},
		{[]int{9}, 1000, 0, api.Rat{Num: 1000, Den: 1}, api.OK},
		{eight, 1000, 7, api.Rat{Num: 125, Den: 1}, api.OK},
		{eight, 999, 7, api.Rat{Num: 999, Den: 8}, api.OK},
		{[]int{1, api.MaxOrders}, 1, 0, api.Rat{Num: 1, Den: api.MaxOrders + 1}, api.OK},
		{[]int{7, 2, 1}, 6, 3, api.Rat{}, api.ErrNone},
		{[]int{7, 2, 1}, 6, -1, api.Rat{}, api.ErrNone},
		{[]int{7, 2, 1}, 6, math.MaxInt, api.Rat{}, api.ErrNone},
		{[]int{7, 2, 1}, 6, math.MinInt, api.Rat{}, api.ErrNone},
		{[]int{7, 2, 1}, -1, 3, api.Rat{}, api.ErrArg},
		{[]int{7, 2, 1}, 1001, 0, api.Rat{}, api.ErrArg},
		{[]int{7, 0, 1}, 6, 3, api.Rat{}, api.ErrArg},
	} {
		if q, e := Quota(x.orders, x.n, x.school); q != x.want || e != x.e {
			t.Errorf("Quota of %d among %v for %d: %v, %v", x.n, x.orders, x.school, q, e)
		}
	}
}

// P4.3
func TestKeeps(t *testing.T) {
	r := rand.New(rand.NewSource(51))
	keeping, not := 0, 0
	check := func(orders, meals []int) {
		want := true
		for i, k := range meals {
			down, up := bounds(orders, total(meals), i)
			want = want && (k == down || k == up)
		}
		if is, e := Keeps(orders, meals); is != want || e != api.OK {
			t.Fatalf("Keeps of %v for %v: %v, %v", meals, orders, is, e)
		}
		if want {
			keeping++
		} else {
			not++
		}
	}
	for _, orders := range lists(3, 1, 4) {
		for _, meals := range lists(3, 0, 4) {
			check(orders, meals)
		}
	}
	for range 3000 {
		schools := r.Intn(api.MaxSchools) + 1
		orders, meals := someOrders(r, schools), someMeals(r, schools)
		check(orders, meals)
		if l, e := Remainders(orders, r.Intn(api.MaxMeals+1)); e == api.OK {
			check(orders, l)
			l[r.Intn(schools)]++
			l[r.Intn(schools)] = max(l[r.Intn(schools)]-1, 0)
			if slices.Max(l) <= api.MaxMeals {
				check(orders, l)
			}
		}
	}
	check(slices.Repeat([]int{api.MaxOrders}, api.MaxSchools), slices.Repeat([]int{api.MaxMeals}, api.MaxSchools))
	check([]int{1, api.MaxOrders}, []int{api.MaxMeals, api.MaxMeals})
	if keeping < 1000 || not < 1000 {
		t.Errorf("%d keep their quotas, %d do not: too much alike", keeping, not)
	}
}

// P4.3
func TestRemainders(t *testing.T) {
	for n, want := range map[int][]int{10: {4, 4, 2}, 11: {5, 5, 1}, 0: {0, 0, 0}, 14: {6, 6, 2}, 1: {1, 0, 0}, 2: {1, 1, 0}} {
		if l, e := Remainders([]int{6, 6, 2}, n); e != api.OK || !slices.Equal(l, want) {
			t.Errorf("Remainders of %d: %v, %v, want %v", n, l, e, want)
		}
	}
	r := rand.New(rand.NewSource(52))
	for range 4000 {
		orders, n := someOrders(r, r.Intn(api.MaxSchools)+1), r.Intn([]int{20, api.MaxMeals + 1}[r.Intn(2)])
		l, e := Remainders(orders, n)
		if e != api.OK || !slices.Equal(l, plainRemainders(orders, n)) || total(l) != n {
			t.Fatalf("Remainders of %d among %v: %v, %v, want %v", n, orders, l, e, plainRemainders(orders, n))
		}
		if is, e := Keeps(orders, l); !is || e != api.OK {
			t.Fatalf("Keeps of the Remainders of %d among %v: %v, %v", n, orders, is, e)
		}
	}
	same := slices.Repeat([]int{api.MaxOrders}, api.MaxSchools)
	if l, e := Remainders(same, 13); e != api.OK || !slices.Equal(l, []int{2, 2, 2, 2, 2, 1, 1, 1}) {
		t.Errorf("Remainders among equal schools: %v, %v", l, e)
	}
}

// P4.3
func TestLoses(t *testing.T) {
	for n, want := range map[int][]int{10: {2}, 9: nil, 0: nil, 3: {2}} {
		if l, e := Loses([]int{6, 6, 2}, n); e != api.OK || !slices.Equal(l, want) {
			t.Errorf("Loses of %d: %v, %v, want %v", n, l, e, want)
		}
	}
	r := rand.New(rand.NewSource(53))
	losers := 0
	for range 6000 {
		orders, n := someOrders(r, r.Intn(api.MaxSchools)+1), r.Intn([]int{20, api.MaxMeals}[r.Intn(2)])
		few, many := plainRemainders(orders, n), plainRemainders(orders, n+1)
		var want []int
		for i := range orders {
			if many[i] < few[i] {
				want = append(want, i)
			}
		}
		if l, e := Loses(orders, n); e != api.OK || !slices.Equal(l, want) {
			t.Fatalf("Loses of %d among %v: %v, %v, want %v", n, orders, l, e, want)
		}
		losers += len(want)
	}
	if losers < 50 {
		t.Errorf("%d losers: too much alike", losers)
	}
	for n, want := range map[int]api.Errno{api.MaxMeals - 1: api.OK, api.MaxMeals: api.ErrArg, -1: api.ErrArg, 0: api.OK, math.MaxInt: api.ErrArg, math.MinInt: api.ErrArg} {
		if l, e := Loses([]int{6, 6, 2}, n); e != want || e != api.OK && len(l) != 0 {
			t.Errorf("Loses of %d: %v, %v", n, l, e)
		}
	}
}

// P4.5
func TestError(t *testing.T) {
	for _, x := range []struct {
		orders, meals []int
		want          api.Rat
	}{
		{[]int{6, 6, 2}, []int{5, 5, 1}, api.Rat{Num: 8, Den: 7}},
		{[]int{6, 6, 2}, []int{6, 6, 2}, api.Rat{Num: 0, Den: 1}},
		{[]int{6, 6, 2}, []int{0, 0, 0}, api.Rat{Num: 0, Den: 1}},
		{[]int{1, 1}, []int{0, 3}, api.Rat{Num: 3, Den: 1}},
		{[]int{5}, []int{1000}, api.Rat{Num: 0, Den: 1}},
		{[]int{7, 2, 1}, []int{4, 1, 1}, api.Rat{Num: 4, Den: 5}},
	} {
		if d, e := Error(x.orders, x.meals); d != x.want || e != api.OK {
			t.Errorf("Error of %v for %v: %v, %v", x.meals, x.orders, d, e)
		}
	}
	r := rand.New(rand.NewSource(54))
	for range 4000 {
		schools := r.Intn(api.MaxSchools) + 1
		orders, meals := someOrders(r, schools), someMeals(r, schools)
		if d, e := Error(orders, meals); e != api.OK || !isRat(d, plainError(orders, meals)) {
			t.Fatalf("Error of %v for %v: %v, %v", meals, orders, d, e)
		}
	}
	ends := [][]int{{1, api.MaxOrders, api.MaxOrders, api.MaxOrders, api.MaxOrders, api.MaxOrders, api.MaxOrders, api.MaxOrders}, {1000, 0, 1000, 0, 1000, 0, 1000, 0}}
	if d, e := Error(ends[0], ends[1]); e != api.OK || !isRat(d, plainError(ends[0], ends[1])) {
		t.Errorf("Error at the limits: %v, %v", d, e)
	}
}

// P4.5: no way of dividing as many meals has a smaller Error than Remainders.
func TestLeastError(t *testing.T) {
	r := rand.New(rand.NewSource(55))
	for range 60 {
		orders, n := someOrders(r, r.Intn(4)+1), r.Intn(9)
		l, e := Remainders(orders, n)
		least, f := Error(orders, l)
		if e != api.OK || f != api.OK {
			t.Fatalf("Error of Remainders of %d among %v: %v, %v", n, orders, e, f)
		}
		for _, other := range divisions(len(orders), n) {
			if d, e := Error(orders, other); e != api.OK || d.Num*least.Den < least.Num*d.Den {
				t.Fatalf("Error of %v for %v: %v, %v; of %v: %v", other, orders, d, e, l, least)
			}
		}
	}
}
