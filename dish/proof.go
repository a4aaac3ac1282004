package dish

import (
	"slices"

	"canteen/api"
)

// maxSteps is the largest number of steps of a proof that is checked.
const maxSteps = 40

// none stands in a step for the item or the rule that it does not use.
const none = -1

// checkProp returns the errors of a book, and then ErrNone if it has no such item or property.
func checkProp(b api.Book, item, prop int) api.Errno {
	if e := checkItem(b, item); e != api.OK {
		return e
	}
	if !isProp(b, prop) {
		return api.ErrNone
	}
	return api.OK
}

// CheckProof returns the first error of a proof that an item has a property, or OK.
func CheckProof(b api.Book, item, prop int, proof []api.Step) api.Errno {
	if e := checkProp(b, item, prop); e != api.OK {
		return e
	}
	if len(proof) > maxSteps {
		return api.ErrLarge
	}
	for i, s := range proof {
		if !isRight(b, item, s, proof[:i]) {
			return api.ErrProof
		}
	}
	if len(proof) == 0 || proof[len(proof)-1].Prop != prop {
		return api.ErrProof
	}
	return api.OK
}

// isRight reports whether a step of a proof about an item is right behind earlier steps that are.
func isRight(b api.Book, item int, s api.Step, earlier []api.Step) bool {
	if s.Rule == none {
		return isItem(b, s.From) && contained(b, item).has(s.From) && slices.Contains(b.Items[s.From].Has, s.Prop)
	}
	if s.From != none || s.Rule < 0 || s.Rule >= len(b.Rules) {
		return false
	}
	r := b.Rules[s.Rule]
	return r.Then == s.Prop && propsOf(earlier).hasAll(r.If)
}

// propsOf returns the properties of right steps.
func propsOf(steps []api.Step) mask {
	var props mask
	for _, s := range steps {
		props = props.with(s.Prop)
	}
	return props
}

// ownSteps returns a step for each property that something in an item has by itself.
func ownSteps(b api.Book, item int) []api.Step {
	var steps []api.Step
	for _, from := range contained(b, item).numbers() {
		for _, p := range b.Items[from].Has {
			if !propsOf(steps).has(p) {
				steps = append(steps, api.Step{Prop: p, From: from, Rule: none})
			}
		}
	}
	return steps
}

// ruleSteps returns a step for each further property that follows from known ones; a step rests on these and on earlier steps.
func ruleSteps(rules []api.Rule, known mask) []api.Step {
	var steps []api.Step
again:
	for {
		for i, r := range rules {
			if !known.has(r.Then) && known.hasAll(r.If) {
				steps = append(steps, api.Step{Prop: r.Then, From: none, Rule: i})
				known = known.with(r.Then)
				// What is new may be what a rule tried before was short of.
				continue again
			}
		}
		return steps
	}
}

// closure returns known properties with all that follow from them.
func closure(rules []api.Rule, known mask) mask {
	return known | propsOf(ruleSteps(rules, known))
}

// Explain returns a proof that an item has a property, and false if there is none.
func Explain(b api.Book, item, prop int) ([]api.Step, bool, api.Errno) {
	if e := checkProp(b, item, prop); e != api.OK {
		return nil, false, e
	}
	steps := ownSteps(b, item)
	steps = append(steps, ruleSteps(b.Rules, propsOf(steps))...)
	last := slices.IndexFunc(steps, func(s api.Step) bool { return s.Prop == prop })
	if last < 0 {
		return nil, false, api.OK
	}
	return steps[:last+1], true, api.OK
}

// Shortest returns the smallest number of properties in a proof that an item has a property, and false if there is no proof.
func Shortest(b api.Book, item, prop int) (int, bool, api.Errno) {
	if e := checkProp(b, item, prop); e != api.OK {
		return 0, false, e
	}
	least, found := 0, false
	for i, yes := range provable(b, item) {
		props := mask(i)
		if yes && props.has(prop) && (!found || props.size() < least) {
			least, found = props.size(), true
		}
	}
	return least, found, api.OK
}

// provable says of each set of properties, as a mask, whether it is that of the right steps of some list.
func provable(b api.Book, item int) []bool {
	own := propsOf(ownSteps(b, item))
	is := make([]bool, 1<<b.Props)
	is[0] = true
	// A set with one more property has a larger mask: all sets that lead to it come before it.
	for i := range is {
		if !is[i] {
			continue
		}
		known := mask(i)
		for _, p := range (own | given(b.Rules, known)).numbers() {
			is[known.with(p)] = true
		}
	}
	return is
}

// given returns the properties that rules give at once for known ones.
func given(rules []api.Rule, known mask) mask {
	var props mask
	for _, r := range rules {
		if known.hasAll(r.If) {
			props = props.with(r.Then)
		}
	}
	return props
}
