package menu

import "canteen/api"

// machine is an api.Machine, with any number of states, that is known to be right.
type machine api.Machine

// next returns the state behind a letter.
func (m machine) next(state, letter int) int {
	return m.Next[state][letter]
}

// accepts reports whether words that end in a state are accepted.
func (m machine) accepts(state int) bool {
	return m.Accept[state]
}

// refuses reports whether words that end in a state are not accepted.
func (m machine) refuses(state int) bool {
	return !m.Accept[state]
}

// after returns the state to which a word leads from another one.
func (m machine) after(state int, word []int) int {
	for _, letter := range word {
		state = m.next(state, letter)
	}
	return state
}

// takes reports whether the machine accepts a word.
func (m machine) takes(word []int) bool {
	return m.accepts(m.after(0, word))
}

// rule is a machine whose states are values of any kind and need not be listed beforehand.
type rule[S comparable] struct {
	letters int
	begin   S
	next    func(state S, letter int) S
	accepts func(state S) bool
}

// listed returns the machine of a rule: the states that are reached, numbered in the order in which they are.
func (r rule[S]) listed() machine {
	m := machine{Letters: r.letters}
	numbers := map[S]int{r.begin: 0}
	states := []S{r.begin}
	for i := 0; i < len(states); i++ {
		row := make([]int, r.letters)
		for letter := range row {
			next := r.next(states[i], letter)
			if _, known := numbers[next]; !known {
				numbers[next] = len(states)
				states = append(states, next)
			}
			row[letter] = numbers[next]
		}
		m.Next = append(m.Next, row)
		m.Accept = append(m.Accept, r.accepts(states[i]))
	}
	return m
}

// plain returns the plain form of the machine of a rule, and ErrLarge if it has too many states.
func (r rule[S]) plain() (api.Machine, api.Errno) {
	m := r.listed()
	alike, kinds := m.alike()
	if kinds > api.MaxStates {
		return api.Machine{}, api.ErrLarge
	}
	// The state 0 is the first one of its kind.
	next := func(state, letter int) int { return alike[m.next(state, letter)] }
	return api.Machine(rule[int]{m.Letters, 0, next, m.accepts}.listed()), api.OK
}

// view is what is seen of a state by one more letter: whether it accepts, and what is known of the states behind it.
type view struct {
	accepts bool
	behind  [api.MaxLetters]int
}

// viewOf returns the view of a state, if known is what is known of each state.
func (m machine) viewOf(state int, known []int) view {
	v := view{accepts: m.accepts(state)}
	for letter := range m.Letters {
		v.behind[letter] = known[m.next(state, letter)]
	}
	return v
}

// alike returns for each state the first one from which the same words are accepted, and how many kinds of states there are; where these are more than MaxStates, only that they are more.
func (m machine) alike() ([]int, int) {
	alike, kinds := make([]int, len(m.Next)), 1
	for {
		finer := make([]int, len(m.Next))
		firsts := map[view]int{}
		for state := range m.Next {
			v := m.viewOf(state, alike)
			if _, known := firsts[v]; !known {
				firsts[v] = state
			}
			finer[state] = firsts[v]
		}
		// Kinds are only ever divided: as many as before are the same ones, and too many stay too many.
		if len(firsts) == kinds || len(firsts) > api.MaxStates {
			return finer, len(firsts)
		}
		alike, kinds = finer, len(firsts)
	}
}
