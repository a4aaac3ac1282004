package guess

import "canteen/api"

// The limits that only this layer has.
const (
	maxLevel  = 1000 // the denominator of a level
	maxPart   = 10   // the denominator of the part of a new number when numbers are smoothed
	maxSmooth = 8    // how many numbers are smoothed
)

// commonDivisor returns the greatest common divisor of two numbers from 0.
func commonDivisor(a, b int) int {
	if b == 0 {
		return a
	}
	return commonDivisor(b, a%b)
}

// tail returns how many sequences of so many trials have at least so many wins.
func tail(trials, wins int) int {
	sum, ways := 0, 1
	for k := range trials + 1 {
		if k >= wins {
			sum += ways
		}
		// the product is a multiple of k + 1: from the ways to have k wins come those to have one more
		ways = ways * (trials - k) / (k + 1)
	}
	return sum
}

// Tail returns how many sequences of so many trials have at least so many wins.
func Tail(trials, wins int) (int, api.Errno) {
	if !isWithin(trials, 0, api.MaxTrials) || !isWithin(wins, 0, trials) {
		return 0, api.ErrArg
	}
	return tail(trials, wins), api.OK
}

// areComparisons reports whether so many comparisons can be won and lost. Neither number is too large by itself then, so that the sum does not wrap around.
func areComparisons(wins, losses int) bool {
	return isWithin(wins, 0, api.MaxTrials) && isWithin(losses, 0, api.MaxTrials-wins)
}

// isLevel reports whether r can be a level.
func isLevel(r api.Rat) bool {
	return isWithin(r.Den, 1, maxLevel) && isWithin(r.Num, 0, r.Den) && commonDivisor(r.Num, r.Den) == 1
}

// Worse reports whether a dish is worse than its rival: whether so many losses of equally good dishes are no more likely than level.
func Worse(wins, losses int, level api.Rat) (bool, api.Errno) {
	if !areComparisons(wins, losses) || !isLevel(level) {
		return false, api.ErrArg
	}
	trials := wins + losses
	return tail(trials, losses)*level.Den <= level.Num<<trials, api.OK
}

// areSmoothable reports whether there are numbers, all of them are numbers of orders, and num/den can be the part of a new one.
func areSmoothable(l []int, num, den int) bool {
	for _, x := range l {
		if !isWithin(x, 0, api.MaxOrders) {
			return false
		}
	}
	return len(l) > 0 && isWithin(den, 1, maxPart) && isWithin(num, 0, den)
}

// Smooth returns the number that comes of mixing each next number of a list into those before it, as the part num/den.
func Smooth(l []int, num, den int) (api.Rat, api.Errno) {
	if !areSmoothable(l, num, den) {
		return api.Rat{}, api.ErrArg
	}
	if len(l) > maxSmooth {
		return api.Rat{}, api.ErrLarge
	}
	// all numbers are brought to the power of den that their fraction has
	sum, power := l[0], 1
	for _, x := range l[1:] {
		sum = sum*(den-num) + x*num*power
		power *= den
	}
	d := commonDivisor(sum, power)
	return api.Rat{Num: sum / d, Den: power / d}, api.OK
}
