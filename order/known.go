package order

import (
	"sort"

	"canteen/api"
)

// known is what is known of a child on some days: a fact, and its number in the table.
type known struct {
	api.Fact
	number int
}

// isOn reports whether something is known of a day.
func (k known) isOn(day int) bool {
	return k.From <= day && day < k.To
}

// written returns the facts that are written at a minute; those behind them are kept apart, so that nothing that is appended comes over them.
func written(l []api.Fact, at int) []api.Fact {
	n := sort.Search(len(l), func(i int) bool { return l[i].At > at })
	return l[:n:n]
}

// record is what is known of one child, in the order in which it was written.
type record []known

// recordOf returns the record of a child.
func recordOf(l []api.Fact, child int) record {
	var r record
	for number, f := range l {
		if f.Child == child {
			r = append(r, known{f, number})
		}
	}
	return r
}

// last returns what was written last of a day, and whether there is something.
func (r record) last(day int) (known, bool) {
	for n := len(r) - 1; n >= 0; n-- {
		if r[n].isOn(day) {
			return r[n], true
		}
	}
	return known{}, false
}

// meal returns the meal of a day by a record; 0 if there is none.
func (r record) meal(day int) int {
	k, _ := r.last(day)
	return k.Meal
}

// spansOf returns the longest spans of days that have one meal and are among those of which on says so.
func spansOf(on func(day int) (meal int, is bool)) []api.Span {
	var l []api.Span
	for day := range api.MaxDay {
		meal, is := on(day)
		if !is {
			continue
		}
		if n := len(l); n > 0 && l[n-1].To == day && l[n-1].Meal == meal {
			l[n-1].To++
		} else {
			l = append(l, api.Span{From: day, To: day + 1, Meal: meal})
		}
	}
	return l
}

// spans returns the spans of days on which there is a meal by a record.
func (r record) spans() []api.Span {
	return spansOf(func(day int) (int, bool) {
		meal := r.meal(day)
		return meal, meal != 0
	})
}

// Known returns the meal of a child on a day as it is known at a minute.
func Known(l []api.Fact, at, child, day int) (int, api.Errno) {
	if e := check(l, isChild(child) && isDay(day)); e != api.OK {
		return 0, e
	}
	return recordOf(written(l, at), child).meal(day), api.OK
}

// Reason returns the number of the fact by which the meal of a child on a day is known at a minute, and whether there is one.
func Reason(l []api.Fact, at, child, day int) (int, bool, api.Errno) {
	if e := check(l, isChild(child) && isDay(day)); e != api.OK {
		return 0, false, e
	}
	k, is := recordOf(written(l, at), child).last(day)
	return k.number, is, api.OK
}

// Spans returns the spans of days on which a child has a meal as it is known at a minute.
func Spans(l []api.Fact, at, child int) ([]api.Span, api.Errno) {
	if e := check(l, isChild(child)); e != api.OK {
		return nil, e
	}
	return recordOf(written(l, at), child).spans(), api.OK
}

// Children returns the children who have a meal on a day as it is known at a minute; for the meal 0 those who have none.
func Children(l []api.Fact, at, day, meal int) ([]int, api.Errno) {
	if e := check(l, isDay(day) && isMeal(meal)); e != api.OK {
		return nil, e
	}
	var children []int
	for child := range api.MaxChild + 1 {
		if recordOf(written(l, at), child).meal(day) == meal {
			children = append(children, child)
		}
	}
	return children, api.OK
}

// Count returns how often a child has a meal on a day of a stretch as it is known at a minute; for the meal 0 how often it has none.
func Count(l []api.Fact, at, from, to, meal int) (int, api.Errno) {
	if e := check(l, isStretch(from, to) && isMeal(meal)); e != api.OK {
		return 0, e
	}
	n := 0
	for child := range api.MaxChild + 1 {
		r := recordOf(written(l, at), child)
		for day := from; day < to; day++ {
			if r.meal(day) == meal {
				n++
			}
		}
	}
	return n, api.OK
}
