package menu

import (
	"slices"

	"canteen/api"
)

// Round reports whether a word is accepted however many times it is served one after another.
func Round(m api.Machine, word []int) (bool, api.Errno) {
	if e := checkWord(m, word); e != api.OK {
		return false, e
	}
	r := machine(m)
	state := 0
	// After as many times as there are states, the states at the ends of the word only return.
	for range r.Next {
		state = r.after(state, word)
		if !r.accepts(state) {
			return false, api.OK
		}
	}
	return true, api.OK
}

// First returns the first of the words that come from a word by turning it round.
func First(word []int) ([]int, api.Errno) {
	if e := checkLetters(word, api.MaxLetters); e != api.OK {
		return nil, e
	}
	first := slices.Clone(word)
	for i := range word {
		turned := slices.Concat(word[i:], word[:i])
		if slices.Compare(turned, first) < 0 {
			first = turned
		}
	}
	return first, api.OK
}
