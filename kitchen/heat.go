package kitchen

import "canteen/api"

// The limits that only heat has.
const (
	maxSteps = 1000 // how many steps are followed
	maxPart  = 100  // the denominator of the part of the difference that stays
)

// isHeat reports whether t is a temperature.
func isHeat(t int) bool {
	return isWithin(t, -api.MaxHeat, api.MaxHeat)
}

// isCourse reports whether food of a heat can be in such air, where the part num/den of the difference stays in each step.
func isCourse(heat, air, num, den int) bool {
	return isHeat(heat) && isHeat(air) && isWithin(den, 1, maxPart) && isWithin(num, 0, den)
}

// cooler returns the temperature after one step of cooling.
func cooler(t, air, num, den int) int {
	part := (t - air) * num
	down := part / den
	// a division rounds toward 0, which is up for what is below it
	if part%den < 0 {
		down--
	}
	return air + down
}

// warmer returns the temperature after one step of warming: rounded up is rounded down with all signs turned.
func warmer(t, air, num, den int) int {
	return -cooler(-t, -air, num, den)
}

// stepsBelow returns the smallest number of steps, up to most, after which the temperature is below limit, and whether there is one.
func stepsBelow(heat, air, num, den, limit, most int) (int, bool) {
	for steps := range most + 1 {
		if heat < limit {
			return steps, true
		}
		heat = cooler(heat, air, num, den)
	}
	return 0, false
}

// Cool returns the temperature after steps of cooling.
func Cool(heat, air, num, den, steps int) (int, api.Errno) {
	if !isCourse(heat, air, num, den) || !isWithin(steps, 0, maxSteps) {
		return 0, api.ErrArg
	}
	for range steps {
		heat = cooler(heat, air, num, den)
	}
	return heat, api.OK
}

// Warm returns the temperature after steps of warming.
func Warm(heat, air, num, den, steps int) (int, api.Errno) {
	if !isCourse(heat, air, num, den) || !isWithin(steps, 0, maxSteps) {
		return 0, api.ErrArg
	}
	for range steps {
		heat = warmer(heat, air, num, den)
	}
	return heat, api.OK
}

// Steps returns the smallest number of steps of cooling after which the temperature is below limit, and whether there is one.
func Steps(heat, air, num, den, limit int) (int, bool, api.Errno) {
	if !isCourse(heat, air, num, den) || !isHeat(limit) {
		return 0, false, api.ErrArg
	}
	steps, is := stepsBelow(heat, air, num, den, limit, maxSteps)
	return steps, is, api.OK
}

// Holds reports whether food keeps at least limit for all steps of cooling up to steps.
func Holds(heat, air, num, den, steps, limit int) (bool, api.Errno) {
	if !isCourse(heat, air, num, den) || !isWithin(steps, 0, maxSteps) || !isHeat(limit) {
		return false, api.ErrArg
	}
	_, falls := stepsBelow(heat, air, num, den, limit, steps)
	return !falls, api.OK
}
