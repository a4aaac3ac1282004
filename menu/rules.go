package menu

import "canteen/api"

// The limits of the rules that are made.
const (
	maxDays  = 3
	maxTimes = 20
)

// recent is what the rule of Apart remembers of a word: its last two letters, or that it is lost.
type recent struct {
	last, before int
	lost         bool
}

// noLetter stands for a letter that has not been read yet.
const noLetter = -1

// Apart returns the machine for the words in which no letter comes twice within so many days.
func Apart(letters, days int) (api.Machine, api.Errno) {
	if !isLetters(letters) || days < 0 || days > maxDays {
		return api.Machine{}, api.ErrArg
	}
	next := func(r recent, letter int) recent {
		if r.lost || days >= 2 && letter == r.last || days >= 3 && letter == r.before {
			return recent{lost: true}
		}
		return recent{last: letter, before: r.last}
	}
	keeps := func(r recent) bool { return !r.lost }
	return rule[recent]{letters, recent{last: noLetter, before: noLetter}, next, keeps}.plain()
}

// areTimes reports whether Least and Most have rules for these arguments.
func areTimes(letters, letter, times int) bool {
	return isLetters(letters) && isBelow(letter, letters) && times >= 0 && times <= maxTimes
}

// counting returns a rule whose states are how often a letter has come, up to an end.
func counting(letters, letter, end int, accepts func(times int) bool) rule[int] {
	next := func(times, a int) int {
		if a == letter && times < end {
			return times + 1
		}
		return times
	}
	return rule[int]{letters, 0, next, accepts}
}

// Least returns the machine for the words in which a letter comes at least so many times.
func Least(letters, letter, times int) (api.Machine, api.Errno) {
	if !areTimes(letters, letter, times) {
		return api.Machine{}, api.ErrArg
	}
	return counting(letters, letter, times, func(come int) bool { return come >= times }).plain()
}

// Most returns the machine for the words in which a letter comes at most so many times.
func Most(letters, letter, times int) (api.Machine, api.Errno) {
	if !areTimes(letters, letter, times) {
		return api.Machine{}, api.ErrArg
	}
	return counting(letters, letter, times+1, func(come int) bool { return come <= times }).plain()
}

// stage is what the rule of Never remembers of a word.
type stage int

const (
	free   stage = iota // any letter may follow
	warned              // the last letter is the first one of the two
	lost                // the second one has come directly after the first one
)

// Never returns the machine for the words in which one letter never comes directly after another.
func Never(letters, first, second int) (api.Machine, api.Errno) {
	if !isLetters(letters) || !isBelow(first, letters) || !isBelow(second, letters) {
		return api.Machine{}, api.ErrArg
	}
	next := func(s stage, letter int) stage {
		switch {
		case s == lost || s == warned && letter == second:
			return lost
		case letter == first:
			return warned
		}
		return free
	}
	keeps := func(s stage) bool { return s != lost }
	return rule[stage]{letters, free, next, keeps}.plain()
}
