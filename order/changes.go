package order

import (
	"slices"

	"canteen/api"
)

// Changed returns the spans of days of a child on which something else is known at after than at before.
func Changed(l []api.Fact, before, after, child int) ([]api.Span, api.Errno) {
	if e := check(l, isChild(child)); e != api.OK {
		return nil, e
	}
	then, now := recordOf(written(l, before), child), recordOf(written(l, after), child)
	return spansOf(func(day int) (int, bool) {
		meal := now.meal(day)
		return meal, meal != then.meal(day)
	}), api.OK
}

// History returns the facts of a child on a day, in order.
func History(l []api.Fact, child, day int) ([]api.Fact, api.Errno) {
	if e := check(l, isChild(child) && isDay(day)); e != api.OK {
		return nil, e
	}
	var facts []api.Fact
	for _, k := range recordOf(l, child) {
		if k.isOn(day) {
			facts = append(facts, k.Fact)
		}
	}
	return facts, api.OK
}

// Until returns the facts that are written at a minute.
func Until(l []api.Fact, at int) ([]api.Fact, api.Errno) {
	if e := Validate(l); e != api.OK {
		return nil, e
	}
	return slices.Clone(written(l, at)), api.OK
}

// Compact returns the facts by which exactly that is known from the minute 0 on what is known at a minute.
func Compact(l []api.Fact, at int) ([]api.Fact, api.Errno) {
	if e := Validate(l); e != api.OK {
		return nil, e
	}
	var facts []api.Fact
	for child := range api.MaxChild + 1 {
		for _, s := range recordOf(written(l, at), child).spans() {
			facts = append(facts, api.Fact{Child: child, From: s.From, To: s.To, Meal: s.Meal})
		}
	}
	if len(facts) > api.MaxFacts {
		return nil, api.ErrLarge
	}
	return facts, api.OK
}

// isNeedless reports whether a fact is never the reason. At its own minute the fewest facts stand behind it, so that no other minute must be tried.
func isNeedless(l []api.Fact, number int) bool {
	f := l[number]
	r := recordOf(written(l, f.At), f.Child)
	for day := f.From; day < f.To; day++ {
		if k, _ := r.last(day); k.number == number {
			return false
		}
	}
	return true
}

// Needless returns the numbers of the facts that never are the reason.
func Needless(l []api.Fact) ([]int, api.Errno) {
	if e := Validate(l); e != api.OK {
		return nil, e
	}
	var needless []int
	for number := range l {
		if isNeedless(l, number) {
			needless = append(needless, number)
		}
	}
	return needless, api.OK
}
