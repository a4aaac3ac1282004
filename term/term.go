// Package term is layer 1: terms, cycles of menus, and remainders.
package term

import (
	"slices"

	"canteen/api"
)

// week is the number of days after which the days of rest return.
const week = 7

// Validate returns the first error of a term, or OK.
func Validate(t api.Term) api.Errno {
	if t.Length < 1 || t.Length > api.MaxDay {
		return api.ErrArg
	}
	if len(t.Rest) == week || !isSet(t.Rest, week) {
		return api.ErrArg
	}
	if len(t.Closed) > api.MaxClosed {
		return api.ErrLarge
	}
	if !isSet(t.Closed, t.Length) {
		return api.ErrArg
	}
	return api.OK
}

// isSet reports whether l is a set of numbers from 0 to end - 1.
func isSet(l []int, end int) bool {
	least := 0
	for _, x := range l {
		if x < least || x >= end {
			return false
		}
		least = x + 1
	}
	return true
}

// ValidateCycle returns ErrArg if a cycle is not valid.
func ValidateCycle(c api.Cycle) api.Errno {
	if c.Menus < 1 || c.Menus > api.MaxMenus || !isMenu(c, c.First) {
		return api.ErrArg
	}
	if c.Kind != api.Waits && c.Kind != api.Runs {
		return api.ErrArg
	}
	return api.OK
}

// isMenu reports whether menu is the number of a menu of the cycle.
func isMenu(c api.Cycle, menu int) bool {
	return menu >= 0 && menu < c.Menus
}

// check returns the first error of a term and then of cycles.
func check(t api.Term, cycles ...api.Cycle) api.Errno {
	if e := Validate(t); e != api.OK {
		return e
	}
	for _, c := range cycles {
		if e := ValidateCycle(c); e != api.OK {
			return e
		}
	}
	return api.OK
}

// checkDay returns the errors of a term, and then ErrArg if it has no such day.
func checkDay(t api.Term, day int) api.Errno {
	if e := Validate(t); e != api.OK {
		return e
	}
	if day < 0 || day >= t.Length {
		return api.ErrArg
	}
	return api.OK
}

// Close returns the term with one more closed day.
func Close(t api.Term, day int) (api.Term, api.Errno) {
	if e := checkDay(t, day); e != api.OK {
		return api.Term{}, e
	}
	at, found := slices.BinarySearch(t.Closed, day)
	if found {
		return api.Term{}, api.ErrState
	}
	if len(t.Closed) == api.MaxClosed {
		return api.Term{}, api.ErrLarge
	}
	closed := slices.Insert(slices.Clone(t.Closed), at, day)
	return api.Term{Length: t.Length, Rest: slices.Clone(t.Rest), Closed: closed}, api.OK
}

// Reopen returns the term with one closed day less.
func Reopen(t api.Term, day int) (api.Term, api.Errno) {
	if e := checkDay(t, day); e != api.OK {
		return api.Term{}, e
	}
	at, found := slices.BinarySearch(t.Closed, day)
	if !found {
		return api.Term{}, api.ErrState
	}
	closed := slices.Delete(slices.Clone(t.Closed), at, at+1)
	return api.Term{Length: t.Length, Rest: slices.Clone(t.Rest), Closed: closed}, api.OK
}

// Turn returns the cycle that begins by menus later.
func Turn(c api.Cycle, by int) (api.Cycle, api.Errno) {
	if e := ValidateCycle(c); e != api.OK {
		return api.Cycle{}, e
	}
	// by is reduced before it is added: the sum with any number could wrap around.
	c.First = modulo(c.First+modulo(by, c.Menus), c.Menus)
	return c, api.OK
}

// modulo returns x modulo n, from 0 to n - 1 also for a negative x.
func modulo(x, n int) int {
	return (x%n + n) % n
}
