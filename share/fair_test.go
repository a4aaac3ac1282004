package share

import (
	"math"
	"math/big"
	"math/rand"
	"testing"

	"canteen/api"
)

// plainFair compares the claims of all pairs of schools.
func plainFair(orders, meals []int, kind int) bool {
	for i := range orders {
		for j := range orders {
			if i != j && meals[i] > 0 && compareClaims(kind, orders[i], meals[i]-1, orders[j], meals[j]) < 0 {
				return false
			}
		}
	}
	return true
}

// plainProves reports whether a number is a divisor by the chapter's words.
func plainProves(orders, meals []int, kind int, d *big.Rat) bool {
	u := int64(1)
	if kind == api.Half {
		u = 2
	}
	times := func(step int64) *big.Rat { return new(big.Rat).Mul(new(big.Rat).SetInt64(step), d) }
	for i, v := range orders {
		part := new(big.Rat).SetInt64(int64(v) * u)
		if meals[i] > 0 && times(stepOf(kind, meals[i]-1)).Cmp(part) > 0 || part.Cmp(times(stepOf(kind, meals[i]))) > 0 {
			return false
		}
	}
	return true
}

// hasNone reports whether a school has no meals.
func hasNone(meals []int) bool {
	for _, k := range meals {
		if k == 0 {
			return true
		}
	}
	return false
}

// eachDividing goes through small orders with small meals, and then through some of any size, of which about half are divided by a kind.
func eachDividing(seed int64, do func(orders, meals []int, kind int)) {
	for _, kind := range kinds {
		for _, orders := range lists(3, 1, 4) {
			for _, meals := range lists(3, 0, 3) {
				do(orders, meals, kind)
			}
		}
	}
	r := rand.New(rand.NewSource(seed))
	for range 4000 {
		schools, kind := r.Intn(api.MaxSchools)+1, r.Intn(3)
		orders, meals := someOrders(r, schools), someMeals(r, schools)
		if r.Intn(2) == 0 {
			meals, _ = Divide(orders, r.Intn(80), kind)
		}
		do(orders, meals, kind)
	}
}

// P4.2
func TestIsFair(t *testing.T) {
	fair, unfair := 0, 0
	eachDividing(46, func(orders, meals []int, kind int) {
		want := plainFair(orders, meals, kind)
		if is, e := IsFair(orders, meals, kind); is != want || e != api.OK {
			t.Fatalf("IsFair of %v for %v by %d: %v, %v", meals, orders, kind, is, e)
		}
		if want {
			fair++
		} else {
			unfair++
		}
	})
	if fair < 1000 || unfair < 1000 {
		t.Errorf("%d fair, %d unfair: too much alike", fair, unfair)
	}
}

// P4.2: the edge cases that the chapter names.
func TestFairEdges(t *testing.T) {
	for _, x := range []struct {
		orders, meals []int
		kind          int
		want          bool
	}{
		{[]int{5, 5}, []int{0, 1}, api.Half, true}, // equal claims, whatever the numbers of the schools are
		{[]int{5, 5}, []int{1, 0}, api.Half, true},
		{[]int{5, 5}, []int{0, 2}, api.Half, false},
		{[]int{5, 5}, []int{0, 1}, api.Up, true}, // equal claims that are greater than every number
		{[]int{5, 6}, []int{0, 1}, api.Up, true},
		{[]int{5, 6}, []int{1, 0}, api.Up, false},
		{[]int{5, 6}, []int{0, 2}, api.Up, false},
		{[]int{5, 6}, []int{0, 0}, api.Up, true}, // no school has a meal
		{[]int{5, 6}, []int{0, 0}, api.Down, true},
		{[]int{7, 2, 1}, []int{5, 1, 0}, api.Down, true},
		{[]int{7, 2, 1}, []int{5, 1, 0}, api.Half, false},
		{[]int{7, 2, 1}, []int{4, 1, 1}, api.Half, true},
		{[]int{9}, []int{1000}, api.Up, true}, // there is no other one
		{[]int{2, 4}, []int{1, 1}, api.Down, true},
		{[]int{4, 2}, []int{2, 1}, api.Down, true},
		{[]int{1, 4}, []int{1, 2}, api.Down, false},
	} {
		if is, e := IsFair(x.orders, x.meals, x.kind); is != x.want || e != api.OK {
			t.Errorf("IsFair of %v for %v by %d: %v, %v", x.meals, x.orders, x.kind, is, e)
		}
	}
}

// P4.2: Check against the chapter's words, with all numbers at which the answer can change, and some beside them.
func TestCheck(t *testing.T) {
	proved, refused := 0, 0
	check := func(orders, meals []int, kind int, d *big.Rat) {
		if d.Sign() <= 0 || d.Num().Int64() > maxPart || d.Denom().Int64() > maxPart {
			return
		}
		want := api.ErrProof
		if plainProves(orders, meals, kind, d) {
			want = api.OK
			proved++
		} else {
			refused++
		}
		if e := Check(orders, meals, kind, api.Rat{Num: int(d.Num().Int64()), Den: int(d.Denom().Int64())}); e != want {
			t.Fatalf("Check of %v for %v by %d with %v: %v, want %v", meals, orders, kind, d, e, want)
		}
	}
	eachDividing(47, func(orders, meals []int, kind int) {
		for i, v := range orders {
			for k := meals[i] - 1; k <= meals[i]; k++ {
				if s := stepOf(kind, k); s > 0 {
					edge := big.NewRat(int64(v), s)
					if kind == api.Half {
						edge.Mul(edge, big.NewRat(2, 1))
					}
					check(orders, meals, kind, edge)
					check(orders, meals, kind, new(big.Rat).Add(edge, big.NewRat(1, 101)))
					check(orders, meals, kind, new(big.Rat).Sub(edge, big.NewRat(1, 101)))
				}
			}
		}
	})
	if proved < 3000 || refused < 3000 {
		t.Errorf("%d proved, %d refused: too much alike", proved, refused)
	}
}

// P4.2: what is no valid divisor, and the limits.
func TestCheckForm(t *testing.T) {
	const limit = 1000000000
	orders, meals := []int{7, 2, 1}, []int{4, 1, 1}
	for d, want := range map[api.Rat]api.Errno{
		{Num: 2, Den: 1}:                         api.OK,
		{Num: 14, Den: 9}:                        api.OK, // 14/9 is the next claim of the first school
		{Num: 139, Den: 90}:                      api.ErrProof,
		{Num: 1999, Den: 1000}:                   api.OK,
		{Num: 2001, Den: 1000}:                   api.ErrProof, // 2 is the claim of the last school for its meal
		{Num: 4, Den: 2}:                         api.ErrArg,
		{Num: 0, Den: 1}:                         api.ErrArg,
		{Num: 1, Den: 0}:                         api.ErrArg,
		{Num: 0, Den: 0}:                         api.ErrArg,
		{Num: -2, Den: -1}:                       api.ErrArg,
		{Num: -2, Den: 1}:                        api.ErrArg,
		{Num: 2, Den: -1}:                        api.ErrArg,
		{Num: limit, Den: 1}:                     api.ErrProof,
		{Num: limit + 1, Den: 1}:                 api.ErrArg,
		{Num: 1, Den: limit}:                     api.ErrProof,
		{Num: 1, Den: limit + 1}:                 api.ErrArg,
		{Num: limit, Den: limit - 1}:             api.ErrProof,
		{Num: limit - 1, Den: limit / 2}:         api.OK,
		{Num: limit, Den: limit}:                 api.ErrArg,
		{Num: math.MaxInt, Den: 1}:               api.ErrArg,
		{Num: math.MinInt, Den: 1}:               api.ErrArg,
		{Num: 1, Den: math.MinInt}:               api.ErrArg,
		{Num: math.MaxInt, Den: math.MaxInt - 1}: api.ErrArg,
	} {
		if e := Check(orders, meals, api.Half, d); e != want {
			t.Errorf("Check of %v: %v, want %v", d, e, want)
		}
	}
	if e := Check([]int{api.MaxOrders}, []int{api.MaxMeals}, api.Half, api.Rat{Num: limit - 1, Den: limit}); e != api.ErrProof {
		t.Errorf("Check at the limits: %v", e)
	}
	for _, kind := range kinds {
		if e := Check([]int{600, 300, 100}, []int{6, 3, 1}, kind, api.Rat{Num: 100, Den: 1}); e != api.OK {
			t.Errorf("Check of the divisor 100 by %d: %v", kind, e)
		}
		if e := Check([]int{1, 1}, []int{0, 0}, kind, api.Rat{Num: limit, Den: 1}); (e == api.OK) != (kind != api.Up) {
			t.Errorf("Check of a great divisor for no meals by %d: %v", kind, e)
		}
	}
}

// P4.2: there is a divisor exactly if the meals are fair and, for Up, no school has 0 meals.
func TestDivisor(t *testing.T) {
	some, none := 0, 0
	eachDividing(48, func(orders, meals []int, kind int) {
		want := plainFair(orders, meals, kind) && (kind != api.Up || !hasNone(meals))
		d, is, e := Divisor(orders, meals, kind)
		if e != api.OK || is != want || !is && d != (api.Rat{}) {
			t.Fatalf("Divisor of %v for %v by %d: %v, %v, %v", meals, orders, kind, d, is, e)
		}
		if !is {
			none++
			return
		}
		some++
		if e := Check(orders, meals, kind, d); e != api.OK || !plainProves(orders, meals, kind, big.NewRat(int64(d.Num), int64(d.Den))) {
			t.Fatalf("Divisor of %v for %v by %d: %v, checked: %v", meals, orders, kind, d, e)
		}
	})
	if some < 1000 || none < 1000 {
		t.Errorf("%d with a divisor, %d without: too much alike", some, none)
	}
}

// S3 and P4.2: Divide is fair, and what is divided is proved by a divisor.
func TestDividedIsProved(t *testing.T) {
	r := rand.New(rand.NewSource(49))
	for range 2000 {
		orders, kind := someOrders(r, r.Intn(api.MaxSchools)+1), r.Intn(3)
		meals := divided(t, orders, r.Intn(api.MaxMeals+1), kind)
		if is, e := IsFair(orders, meals, kind); !is || e != api.OK {
			t.Fatalf("IsFair of %v for %v by %d: %v, %v", meals, orders, kind, is, e)
		}
		d, is, e := Divisor(orders, meals, kind)
		if kind == api.Up && hasNone(meals) {
			if is || e != api.OK {
				t.Fatalf("Divisor of %v for %v by Up: %v, %v, %v", meals, orders, d, is, e)
			}
			continue
		}
		if !is || e != api.OK || Check(orders, meals, kind, d) != api.OK {
			t.Fatalf("Divisor of %v for %v by %d: %v, %v, %v", meals, orders, kind, d, is, e)
		}
	}
}
