package share

import (
	"cmp"
	"slices"

	"canteen/api"
)

// steps is how a kind of rounding weighs schools: the step of a school with so many meals, and the unit in which its divisors count an order.
type steps struct {
	step func(meals int) int
	unit int
}

// stepsOf returns the steps of a kind of rounding that isKind accepts.
func stepsOf(kind int) steps {
	table := [...]steps{
		api.Down: {func(meals int) int { return meals + 1 }, 1},
		api.Half: {func(meals int) int { return 2*meals + 1 }, 2},
		api.Up:   {func(meals int) int { return meals }, 1},
	}
	return table[kind]
}

// claim is the claim of a school to a meal: its orders divided by its step; with the step 0 it is greater than every number.
type claim struct {
	school, orders, step int
}

// size compares how great two claims are.
func (c claim) size(other claim) int {
	if c.step == 0 && other.step == 0 {
		return cmp.Compare(c.orders, other.orders)
	}
	return cmp.Compare(c.orders*other.step, other.orders*c.step)
}

// rank compares two claims as size does, but of equal ones that of the smaller school counts as greater.
func (c claim) rank(other claim) int {
	return cmp.Or(c.size(other), cmp.Compare(other.school, c.school))
}

// next returns the claims of all schools to another meal.
func (s steps) next(orders, meals []int) []claim {
	var l []claim
	for school, v := range orders {
		l = append(l, claim{school, v, s.step(meals[school])})
	}
	return l
}

// held returns the claims by which the schools that have meals have got their last ones.
func (s steps) held(orders, meals []int) []claim {
	var l []claim
	for school, v := range orders {
		if meals[school] > 0 {
			l = append(l, claim{school, v, s.step(meals[school] - 1)})
		}
	}
	return l
}

// claimer returns the school with the greatest claim to another meal.
func (s steps) claimer(orders, meals []int) int {
	return slices.MaxFunc(s.next(orders, meals), claim.rank).school
}
