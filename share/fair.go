package share

import (
	"slices"

	"canteen/api"
)

// maxPart is the greatest numerator and denominator of a divisor.
const maxPart = 1000000000

// IsFair reports whether no school that has a meal has a smaller claim for it than another one has for its next.
func IsFair(orders, meals []int, kind int) (bool, api.Errno) {
	if e := checkDivided(orders, meals, kind); e != api.OK {
		return false, e
	}
	return stepsOf(kind).areFair(orders, meals), api.OK
}

// areFair compares the smallest claim for a meal that a school has with the greatest one for a next meal. These are never of one school if the first is smaller, since the claims of a school fall.
func (s steps) areFair(orders, meals []int) bool {
	held := s.held(orders, meals)
	if len(held) == 0 {
		return true
	}
	least := slices.MinFunc(held, claim.size)
	greatest := slices.MaxFunc(s.next(orders, meals), claim.size)
	return least.size(greatest) >= 0
}

// isDivisorForm reports whether a fraction is one of those that may prove how meals are divided.
func isDivisorForm(d api.Rat) bool {
	return isWithin(d.Num, 1, maxPart) && isWithin(d.Den, 1, maxPart) && commonDivisor(d.Num, d.Den) == 1
}

// Check returns ErrProof if a number does not prove that the meals are divided by a kind of rounding.
func Check(orders, meals []int, kind int, divisor api.Rat) api.Errno {
	if e := checkDivided(orders, meals, kind); e != api.OK {
		return e
	}
	if !isDivisorForm(divisor) {
		return api.ErrArg
	}
	if !stepsOf(kind).areProved(orders, meals, divisor) {
		return api.ErrProof
	}
	return api.OK
}

// areProved reports whether each school has as many meals as its orders by the divisor allow.
func (s steps) areProved(orders, meals []int, divisor api.Rat) bool {
	for _, c := range s.held(orders, meals) {
		if c.step*divisor.Num > c.orders*s.unit*divisor.Den {
			return false
		}
	}
	for _, c := range s.next(orders, meals) {
		if c.orders*s.unit*divisor.Den > c.step*divisor.Num {
			return false
		}
	}
	return true
}

// Divisor returns a number that proves how the meals are divided, and whether there is one. The smallest number that can is the greatest claim to a next meal: if this proves nothing, no number does.
func Divisor(orders, meals []int, kind int) (api.Rat, bool, api.Errno) {
	if e := checkDivided(orders, meals, kind); e != api.OK {
		return api.Rat{}, false, e
	}
	s := stepsOf(kind)
	greatest := slices.MaxFunc(s.next(orders, meals), claim.size)
	if greatest.step == 0 || !s.areFair(orders, meals) {
		return api.Rat{}, false, api.OK
	}
	return lowest(greatest.orders*s.unit, greatest.step), true, api.OK
}
