package guess

import "canteen/api"

// fullWeight is the weight of an adviser that was never wrong: it stays a whole number when it is halved in each round.
const fullWeight = 1 << api.MaxRounds

// weights are the weights of the advisers; as an array they are copied, so that those before a round are not changed by it.
type weights [api.MaxAdvisers]int

// say returns what is said by advisers of these weights.
func (w weights) say(advice []bool) bool {
	surplus := 0
	for adviser, more := range advice {
		if more {
			surplus += w[adviser]
		} else {
			surplus -= w[adviser]
		}
	}
	return surplus > 0
}

// after returns the weights after one more round.
func (w weights) after(r api.Round) weights {
	for adviser, more := range r.Advice {
		if more != r.Came {
			w[adviser] >>= 1
		}
	}
	return w
}

// play goes through a game in which each adviser has the same weight first, and returns what is said in each round and the weights after all rounds.
func play(g []api.Round, first int) (said []bool, w weights) {
	for adviser := range w {
		w[adviser] = first
	}
	for n := range len(g) {
		said = append(said, w.say(g[n].Advice))
		w = w.after(g[n])
	}
	return said, w
}

// errorsOf returns in how many rounds something else came than was said.
func errorsOf(g []api.Round, said []bool) int {
	times := 0
	for n := range len(g) {
		if said[n] != g[n].Came {
			times++
		}
	}
	return times
}

// Weights returns the weights of the advisers after all rounds.
func Weights(g []api.Round) ([]int, api.Errno) {
	if e := check(g, 0); e != api.OK {
		return nil, e
	}
	_, w := play(g, fullWeight)
	return w[:advisers(g)], api.OK
}

// Say returns what the office says in a next round.
func Say(g []api.Round, advice []bool) (bool, api.Errno) {
	if e := Validate(g); e != api.OK {
		return false, e
	}
	if !isWithin(len(advice), 1, api.MaxAdvisers) || len(g) > 0 && len(advice) != advisers(g) {
		return false, api.ErrArg
	}
	_, w := play(g, fullWeight)
	return w.say(advice), api.OK
}

// Said returns what the office said in each round.
func Said(g []api.Round) ([]bool, api.Errno) {
	if e := Validate(g); e != api.OK {
		return nil, e
	}
	said, _ := play(g, fullWeight)
	return said, api.OK
}

// Errors returns how often the office erred.
func Errors(g []api.Round) (int, api.Errno) {
	if e := Validate(g); e != api.OK {
		return 0, e
	}
	said, _ := play(g, fullWeight)
	return errorsOf(g, said), api.OK
}

// Bound returns how often the office may err at most if its best adviser was wrong so often.
func Bound(advisers, wrong int) (int, api.Errno) {
	if !isWithin(advisers, 1, api.MaxAdvisers) || !isWithin(wrong, 0, api.MaxRounds) {
		return 0, api.ErrArg
	}
	most, right := 0, advisers
	for m := range api.MaxRounds + 1 {
		// both sides are divided by 2^wrong, since their products are too large; a left side below 1 is below the right one, as 1 is
		if 1<<max(2*m-wrong, 0) <= right {
			most = m
		}
		right *= 3
	}
	return most, api.OK
}

// Halving returns the advisers who were never wrong, how often the rule erred that hears only those who were not wrong yet, and whether there are such advisers. It is the rule of the office with the weight 1 first: halved, this is 0, and is not heard.
func Halving(g []api.Round) ([]int, int, bool, api.Errno) {
	if e := check(g, 0); e != api.OK {
		return nil, 0, false, e
	}
	said, w := play(g, 1)
	var right []int
	for adviser := range advisers(g) {
		if w[adviser] > 0 {
			right = append(right, adviser)
		}
	}
	if len(right) == 0 {
		return nil, 0, false, api.OK
	}
	return right, errorsOf(g, said), true, api.OK
}
