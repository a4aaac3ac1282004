package share

import (
	"cmp"
	"slices"

	"canteen/api"
)

// commonDivisor returns the greatest common divisor of two numbers from 0 that are not both 0.
func commonDivisor(a, b int) int {
	for b > 0 {
		a, b = b, a%b
	}
	return a
}

// lowest returns the valid fraction of a number from 0 divided by one above 0.
func lowest(num, den int) api.Rat {
	d := commonDivisor(num, den)
	return api.Rat{Num: num / d, Den: den / d}
}

// sum returns the sum of a list.
func sum(l []int) int {
	all := 0
	for _, x := range l {
		all += x
	}
	return all
}

// Quota returns the exact part of a school of n meals.
func Quota(orders []int, n, school int) (api.Rat, api.Errno) {
	if e := checkNumber(orders, n); e != api.OK {
		return api.Rat{}, e
	}
	if !isWithin(school, 0, len(orders)-1) {
		return api.Rat{}, api.ErrNone
	}
	return lowest(n*orders[school], sum(orders)), api.OK
}

// gaps returns how far the meals of each school are from its quota, as multiples of 1 divided by the sum of the orders.
func gaps(orders, meals []int) []int {
	ordered, given := sum(orders), sum(meals)
	var l []int
	for school, v := range orders {
		d := meals[school]*ordered - given*v
		l = append(l, max(d, -d))
	}
	return l
}

// Keeps reports whether each school has its quota, rounded down or up: that is less than one meal away from it.
func Keeps(orders, meals []int) (bool, api.Errno) {
	if e := checkMeals(orders, meals); e != api.OK {
		return false, e
	}
	return slices.Max(gaps(orders, meals)) < sum(orders), api.OK
}

// Error returns the sum of the absolute differences of meals and quotas.
func Error(orders, meals []int) (api.Rat, api.Errno) {
	if e := checkMeals(orders, meals); e != api.OK {
		return api.Rat{}, e
	}
	return lowest(sum(gaps(orders, meals)), sum(orders)), api.OK
}

// rest is what a school lacks of its quota when this is rounded down, as a multiple of 1 divided by the sum of the orders.
type rest struct {
	school, lacks int
}

// before compares rests: the larger ones come first, of equal ones the smaller school.
func (r rest) before(other rest) int {
	return cmp.Or(cmp.Compare(other.lacks, r.lacks), cmp.Compare(r.school, other.school))
}

// byRests gives each school its quota rounded down, and then one meal more to those with the largest rests.
func byRests(orders []int, n int) []int {
	ordered := sum(orders)
	var meals []int
	var rests []rest
	for school, v := range orders {
		meals = append(meals, n*v/ordered)
		rests = append(rests, rest{school, n * v % ordered})
	}
	slices.SortFunc(rests, rest.before)
	for _, r := range rests[:n-sum(meals)] {
		meals[r.school]++
	}
	return meals
}

// Remainders returns how n meals are divided by quotas and their rests.
func Remainders(orders []int, n int) ([]int, api.Errno) {
	if e := checkNumber(orders, n); e != api.OK {
		return nil, e
	}
	return byRests(orders, n), api.OK
}

// Loses returns the schools to which Remainders gives fewer of n + 1 meals than of n.
func Loses(orders []int, n int) ([]int, api.Errno) {
	if e := checkNumber(orders, n); e != api.OK {
		return nil, e
	}
	if n == api.MaxMeals {
		return nil, api.ErrArg
	}
	few, many := byRests(orders, n), byRests(orders, n+1)
	var losers []int
	for school := range orders {
		if many[school] < few[school] {
			losers = append(losers, school)
		}
	}
	return losers, api.OK
}
