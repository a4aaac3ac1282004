package term

import (
	"iter"
	"slices"

	"canteen/api"
)

// weekDays goes through the week days of a valid term, and says of each whether it is a school day.
func weekDays(t api.Term) iter.Seq2[int, bool] {
	return func(yield func(day int, open bool) bool) {
		for day := range t.Length {
			if slices.Contains(t.Rest, day%week) {
				continue
			}
			_, closed := slices.BinarySearch(t.Closed, day)
			if !yield(day, !closed) {
				return
			}
		}
	}
}

// schoolDays goes through the school days of a valid term.
func schoolDays(t api.Term) iter.Seq[int] {
	return func(yield func(day int) bool) {
		for day, open := range weekDays(t) {
			if open && !yield(day) {
				return
			}
		}
	}
}

// menus goes through the school days of a valid term with their menus by a valid cycle.
func menus(t api.Term, c api.Cycle) iter.Seq2[int, int] {
	return func(yield func(day, menu int) bool) {
		menu := c.First
		for day, open := range weekDays(t) {
			if open && !yield(day, menu) {
				return
			}
			if open || c.Kind == api.Runs {
				menu = (menu + 1) % c.Menus
			}
		}
	}
}

// IsOpen reports whether a day is a school day.
func IsOpen(t api.Term, day int) (bool, api.Errno) {
	if e := checkDay(t, day); e != api.OK {
		return false, e
	}
	for d := range schoolDays(t) {
		if d == day {
			return true, api.OK
		}
	}
	return false, api.OK
}

// Count returns the number of the school days from from to to - 1.
func Count(t api.Term, from, to int) (int, api.Errno) {
	if e := Validate(t); e != api.OK {
		return 0, e
	}
	if from < 0 || from > to || to > t.Length {
		return 0, api.ErrArg
	}
	n := 0
	for day := range schoolDays(t) {
		if from <= day && day < to {
			n++
		}
	}
	return n, api.OK
}

// Nth returns the school day before which there are n school days.
func Nth(t api.Term, n int) (int, api.Errno) {
	if e := Validate(t); e != api.OK {
		return 0, e
	}
	before := 0
	for day := range schoolDays(t) {
		if before == n {
			return day, api.OK
		}
		before++
	}
	return 0, api.ErrNone
}

// Next returns the first school day from day on.
func Next(t api.Term, day int) (int, api.Errno) {
	if e := checkDay(t, day); e != api.OK {
		return 0, e
	}
	for d := range schoolDays(t) {
		if d >= day {
			return d, api.OK
		}
	}
	return 0, api.ErrNone
}

// Menu returns the menu of a school day.
func Menu(t api.Term, c api.Cycle, day int) (int, api.Errno) {
	if e := check(t, c); e != api.OK {
		return 0, e
	}
	if e := checkDay(t, day); e != api.OK {
		return 0, e
	}
	for d, menu := range menus(t, c) {
		if d == day {
			return menu, api.OK
		}
	}
	return 0, api.ErrClosed
}

// Days returns the set of the school days with a menu.
func Days(t api.Term, c api.Cycle, menu int) ([]int, api.Errno) {
	if e := check(t, c); e != api.OK {
		return nil, e
	}
	if !isMenu(c, menu) {
		return nil, api.ErrArg
	}
	return daysWith(t, c, menu), api.OK
}

// daysWith is Days for valid arguments.
func daysWith(t api.Term, c api.Cycle, menu int) []int {
	var days []int
	for day, m := range menus(t, c) {
		if m == menu {
			days = append(days, day)
		}
	}
	return days
}

// Served returns, for each menu, how many school days have it.
func Served(t api.Term, c api.Cycle) ([]int, api.Errno) {
	if e := check(t, c); e != api.OK {
		return nil, e
	}
	served := make([]int, c.Menus)
	for _, menu := range menus(t, c) {
		served[menu]++
	}
	return served, api.OK
}

// Together returns the first day with the menu x by the cycle a and the menu y by the cycle b.
func Together(t api.Term, a, b api.Cycle, x, y int) (int, bool, api.Errno) {
	if e := check(t, a, b); e != api.OK {
		return 0, false, e
	}
	if !isMenu(a, x) || !isMenu(b, y) {
		return 0, false, api.ErrArg
	}
	other := daysWith(t, b, y)
	for _, day := range daysWith(t, a, x) {
		if _, both := slices.BinarySearch(other, day); both {
			return day, true, api.OK
		}
	}
	return 0, false, api.OK
}

// Lost returns the number of the week days whose menu is lost because they are closed.
func Lost(t api.Term, c api.Cycle) (int, api.Errno) {
	if e := check(t, c); e != api.OK {
		return 0, e
	}
	if c.Kind != api.Runs {
		return 0, api.OK
	}
	lost := 0
	for _, open := range weekDays(t) {
		if !open {
			lost++
		}
	}
	return lost, api.OK
}
