package menu

import (
	"slices"

	"canteen/api"
)

// twin is two machines with the same letters that read a word together.
type twin struct {
	a, b machine
}

// next returns the states behind a letter.
func (t twin) next(states [2]int, letter int) [2]int {
	return [2]int{t.a.next(states[0], letter), t.b.next(states[1], letter)}
}

// both reports whether both states accept.
func (t twin) both(states [2]int) bool {
	return t.a.accepts(states[0]) && t.b.accepts(states[1])
}

// either reports whether at least one state accepts.
func (t twin) either(states [2]int) bool {
	return t.a.accepts(states[0]) || t.b.accepts(states[1])
}

// one reports whether exactly one state accepts.
func (t twin) one(states [2]int) bool {
	return t.a.accepts(states[0]) != t.b.accepts(states[1])
}

// rule returns the rule that a word ends in states that accept.
func (t twin) rule(accepts func(states [2]int) bool) rule[[2]int] {
	return rule[[2]int]{t.a.Letters, [2]int{}, t.next, accepts}
}

// Plain returns the plain form of a machine.
func Plain(m api.Machine) (api.Machine, api.Errno) {
	if e := Validate(m); e != api.OK {
		return api.Machine{}, e
	}
	return rule[int]{m.Letters, 0, machine(m).next, machine(m).accepts}.plain()
}

// Not returns the machine for the words that a machine does not accept.
func Not(a api.Machine) (api.Machine, api.Errno) {
	if e := Validate(a); e != api.OK {
		return api.Machine{}, e
	}
	return rule[int]{a.Letters, 0, machine(a).next, machine(a).refuses}.plain()
}

// Both returns the machine for the words that both machines accept.
func Both(a, b api.Machine) (api.Machine, api.Errno) {
	if e := checkTwo(a, b); e != api.OK {
		return api.Machine{}, e
	}
	t := twin{machine(a), machine(b)}
	return t.rule(t.both).plain()
}

// Either returns the machine for the words that at least one of two machines accepts.
func Either(a, b api.Machine) (api.Machine, api.Errno) {
	if e := checkTwo(a, b); e != api.OK {
		return api.Machine{}, e
	}
	t := twin{machine(a), machine(b)}
	return t.rule(t.either).plain()
}

// Same reports whether two machines accept the same words.
func Same(a, b api.Machine) (bool, api.Errno) {
	_, parted, e := Part(a, b)
	return e == api.OK && !parted, e
}

// Part returns the first word that exactly one of two machines accepts, and false if there is none.
func Part(a, b api.Machine) ([]int, bool, api.Errno) {
	if e := checkTwo(a, b); e != api.OK {
		return nil, false, e
	}
	t := twin{machine(a), machine(b)}
	m := t.rule(t.one).listed()
	parting := slices.Index(m.Accept, true)
	if parting < 0 {
		return nil, false, api.OK
	}
	// The states are numbered as they are first reached: the first way into a state is the end of its first word.
	var wordTo func(state int) []int
	wordTo = func(state int) []int {
		if state == 0 {
			return nil
		}
		from := slices.IndexFunc(m.Next, func(row []int) bool { return slices.Contains(row, state) })
		return append(wordTo(from), slices.Index(m.Next[from], state))
	}
	return wordTo(parting), true, api.OK
}
