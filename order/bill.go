package order

import "canteen/api"

// maxCut is the greatest number of minutes by which a meal must be cancelled before its day.
const maxCut = 10000

// arePrices reports whether there is a price for each meal.
func arePrices(prices []int) bool {
	for _, p := range prices {
		if !isWithin(p, 0, api.MaxPrice) {
			return false
		}
	}
	return len(prices) == api.MaxMeal
}

// priceOf returns the price of a meal; none costs nothing.
func priceOf(prices []int, meal int) int {
	if meal == 0 {
		return 0
	}
	return prices[meal-1]
}

// checkBill returns the errors of the arguments by which meals are paid, and then ErrArg unless the other arguments are good.
func checkBill(l []api.Fact, r []api.Right, prices []int, cut int, areGood bool) api.Errno {
	if e := Validate(l); e != api.OK {
		return e
	}
	if e := ValidateRights(r); e != api.OK {
		return e
	}
	if !arePrices(prices) || !isWithin(cut, 0, maxCut) || !areGood {
		return api.ErrArg
	}
	return api.OK
}

// pay returns what is paid for a child and the days of a stretch.
func pay(l []api.Fact, r []api.Right, prices []int, cut, child, from, to int) int {
	end := recordOf(l, child)
	sum := 0
	for day := from; day < to; day++ {
		if isFree(r, child, day) {
			continue
		}
		inTime := recordOf(written(l, day*minutes-cut), child)
		sum += max(priceOf(prices, inTime.meal(day)), priceOf(prices, end.meal(day)))
	}
	return sum
}

// Pay returns what is paid for a child and a day.
func Pay(l []api.Fact, r []api.Right, prices []int, cut, child, day int) (int, api.Errno) {
	if e := checkBill(l, r, prices, cut, isChild(child) && isDay(day)); e != api.OK {
		return 0, e
	}
	return pay(l, r, prices, cut, child, day, day+1), api.OK
}

// Bill returns what is paid for a child and the days of a stretch.
func Bill(l []api.Fact, r []api.Right, prices []int, cut, child, from, to int) (int, api.Errno) {
	if e := checkBill(l, r, prices, cut, isChild(child) && isStretch(from, to)); e != api.OK {
		return 0, e
	}
	return pay(l, r, prices, cut, child, from, to), api.OK
}
