package menu

import "canteen/api"

// checkPoints returns the errors of a machine and a length, and then ErrArg if points are not those of its letters.
func checkPoints(m api.Machine, n int, points []int) api.Errno {
	if e := checkLength(m, n); e != api.OK {
		return e
	}
	if len(points) != m.Letters || !areBelow(points, api.MaxPoints+1) {
		return api.ErrArg
	}
	return api.OK
}

// CountPoints returns the number of the accepted words of a length that have a total of points.
func CountPoints(m api.Machine, n int, points []int, total int) (int, api.Errno) {
	if e := checkPoints(m, n, points); e != api.OK {
		return 0, e
	}
	if !isBelow(total, n*api.MaxPoints+1) {
		return 0, api.OK
	}
	r := machine(m)
	words := r.noTotals(total)
	words[0][0] = 1
	for range n {
		words = r.longer(words, points)
	}
	sum := 0
	for state := range r.Next {
		if r.accepts(state) {
			sum += words[state][total]
		}
	}
	return sum, api.OK
}

// noTotals returns 0 for each state and each total from 0 to most.
func (m machine) noTotals(most int) [][]int {
	table := make([][]int, len(m.Next))
	for state := range table {
		table[state] = make([]int, most+1)
	}
	return table
}

// longer returns how many words lead to each state with each total, of those that have one letter more than the given ones.
func (m machine) longer(words [][]int, points []int) [][]int {
	most := len(words[0]) - 1
	table := m.noTotals(most)
	for state, totals := range words {
		for letter, more := range points {
			next := table[m.next(state, letter)]
			// Points are never taken away: what is above the total that is asked for need not be known.
			for total := 0; total+more <= most; total++ {
				next[total+more] += totals[total]
			}
		}
	}
	return table
}

// noWord stands for the points of a word where there is none: no word has so many.
const noWord = api.MaxWord*api.MaxPoints + 1

// fewest returns, for each length from 0 to n and each state, the fewest points of a word of this length that is accepted from there; noWord if there is none.
func (m machine) fewest(n int, points []int) [][]int {
	return m.byLength(n, 0, noWord, func(state int, shorter []int) int {
		least := noWord
		for letter, next := range m.Next[state] {
			least = min(least, points[letter]+shorter[next])
		}
		return least
	})
}

// Cheapest returns the first of the accepted words of a length with the fewest points, and these; false if no word is accepted.
func Cheapest(m api.Machine, n int, points []int) ([]int, int, bool, api.Errno) {
	if e := checkPoints(m, n, points); e != api.OK {
		return nil, 0, false, e
	}
	r := machine(m)
	fewest := r.fewest(n, points)
	least := fewest[n][0]
	if least == noWord {
		return nil, 0, false, api.OK
	}
	word, state := make([]int, n), 0
	for i := range word {
		left := n - i - 1
		// Some letter goes on with the fewest points; the first one makes the first word.
		for points[word[i]]+fewest[left][r.next(state, word[i])] > fewest[left+1][state] {
			word[i]++
		}
		state = r.next(state, word[i])
	}
	return word, least, true, api.OK
}
