package menu

import "canteen/api"

// byLength returns, for each length from 0 to n, a number for each state: for the length 0 by what the state accepts, and then what longer makes of a state and the numbers for the length before.
func (m machine) byLength(n int, accepted, refused int, longer func(state int, shorter []int) int) [][]int {
	table := make([][]int, n+1)
	for length := range table {
		table[length] = make([]int, len(m.Next))
		for state := range m.Next {
			switch {
			case length > 0:
				table[length][state] = longer(state, table[length-1])
			case m.accepts(state):
				table[length][state] = accepted
			default:
				table[length][state] = refused
			}
		}
	}
	return table
}

// words returns, for each length from 0 to n and each state, how many words of this length are accepted from there.
func (m machine) words(n int) [][]int {
	return m.byLength(n, 1, 0, func(state int, shorter []int) int {
		sum := 0
		for _, next := range m.Next[state] {
			sum += shorter[next]
		}
		return sum
	})
}

// Count returns the number of the words of a length that a machine accepts.
func Count(m api.Machine, n int) (int, api.Errno) {
	if e := checkLength(m, n); e != api.OK {
		return 0, e
	}
	return machine(m).words(n)[n][0], api.OK
}

// Rank returns how many accepted words of the same length come before a word; ErrRule if the word is not accepted.
func Rank(m api.Machine, word []int) (int, api.Errno) {
	if e := checkWord(m, word); e != api.OK {
		return 0, e
	}
	r := machine(m)
	if !r.takes(word) {
		return 0, api.ErrRule
	}
	words := r.words(len(word))
	rank, state := 0, 0
	for i, letter := range word {
		left := len(word) - i - 1
		for smaller := range letter {
			rank += words[left][r.next(state, smaller)]
		}
		state = r.next(state, letter)
	}
	return rank, api.OK
}

// Unrank returns the accepted word of a length with a rank; ErrNone if there is none.
func Unrank(m api.Machine, n, rank int) ([]int, api.Errno) {
	if e := checkLength(m, n); e != api.OK {
		return nil, e
	}
	r := machine(m)
	words := r.words(n)
	if !isBelow(rank, words[n][0]) {
		return nil, api.ErrNone
	}
	word, state := make([]int, n), 0
	for i := range word {
		left := n - i - 1
		// The rank is below the number of all words from here on, so some letter has it.
		for rank >= words[left][r.next(state, word[i])] {
			rank -= words[left][r.next(state, word[i])]
			word[i]++
		}
		state = r.next(state, word[i])
	}
	return word, api.OK
}
