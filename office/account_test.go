package office

import (
	"math"
	"slices"
	"testing"

	"canteen/api"
)

// owes examines what a child owes.
func owes(t *testing.T, o *Office, child, want int) {
	t.Helper()
	if pence, e := o.Due(child); pence != want || e != api.OK {
		t.Errorf("Due of %d: %d, %v; want %d", child, pence, e, want)
	}
}

// expects examines how many portions there are on a day.
func expects(t *testing.T, o *Office, day, want int) {
	t.Helper()
	if n, e := o.Portions(day); n != want || e != api.OK {
		t.Errorf("Portions of %d: %d, %v; want %d", day, n, e, want)
	}
}

// servedAs examines what was served on a day.
func servedAs(t *testing.T, o *Office, day int, want [4]int, wantError api.Errno) {
	t.Helper()
	var got [4]int
	var e api.Errno
	got[0], got[1], got[2], got[3], e = o.Served(day)
	if got != want || e != wantError {
		t.Errorf("Served of %d: %v, %v; want %v, %v", day, got, e, want, wantError)
	}
}

// noSchoolDays are days with an error of Meal, Portions and Served.
func noSchoolDays() map[int]api.Errno {
	return map[int]api.Errno{
		2: api.ErrClosed, 5: api.ErrClosed, 6: api.ErrClosed, 12: api.ErrClosed, 13: api.ErrClosed, 20: api.ErrClosed,
		-1: api.ErrArg, 21: api.ErrArg, 999: api.ErrArg, 1000: api.ErrArg, math.MinInt: api.ErrArg, math.MaxInt: api.ErrArg,
	}
}

// P9.5: Meal returns the dish of the menu of a day.
func TestMeal(t *testing.T) {
	o := open(t, "dish soup 0", "dish pie 3")
	for day, want := range map[int]string{0: "soup", 3: "soup", 8: "soup", 11: "soup", 16: "soup", 1: "pie", 4: "pie", 9: "pie", 14: "pie", 17: "pie"} {
		if name, e := o.Meal(day); name != want || e != api.OK {
			t.Errorf("Meal of %d: %q, %v", day, name, e)
		}
	}
	for _, day := range []int{7, 10, 15, 18} {
		if name, e := o.Meal(day); name != "" || e != api.ErrNone {
			t.Errorf("Meal of %d: %q, %v", day, name, e)
		}
	}
	for day, want := range noSchoolDays() {
		if name, e := o.Meal(day); name != "" || e != want {
			t.Errorf("Meal of %d: %q, %v", day, name, e)
		}
	}
	accept(t, o, "dish jam 0")
	if name, e := o.Meal(7); name != "jam" || e != api.OK {
		t.Errorf("Meal of 7: %q, %v", name, e)
	}
}

// P9.5: Portions returns how many children have the meal 1, as it is known now.
func TestPortions(t *testing.T) {
	o := open(t, "child 0", "child 8", "child 99", "child 3")
	expects(t, o, 0, 0)
	accept(t, o, "order 0 0 5", "order 8 0 5", "order 8 4 9", "order 99 3 1000")
	for day, want := range map[int]int{0: 2, 1: 2, 3: 3, 4: 3, 7: 2, 8: 2, 9: 1, 18: 1} {
		expects(t, o, day, want)
	}
	accept(t, o, "cancel 8 0 5", "at 1440000", "cancel 0 3 4", "cancel 3 0 21")
	for day, want := range map[int]int{0: 1, 1: 1, 3: 1, 4: 2, 7: 2, 18: 1} {
		expects(t, o, day, want)
	}
	accept(t, o, "order 8 3 4")
	expects(t, o, 3, 2)
	for day, want := range noSchoolDays() {
		if n, e := o.Portions(day); n != 0 || e != want {
			t.Errorf("Portions of %d: %d, %v", day, n, e)
		}
	}
}

// P9.5: Served returns what was cooked, eaten, wasted and missing.
func TestServed(t *testing.T) {
	o := open(t, "child 1", "child 2", "child 3", "order 1 0 5", "order 2 0 5", "order 3 0 2")
	servedAs(t, o, 0, [4]int{}, api.ErrState)
	accept(t, o, "cook 0 10", "cook 1 1", "cook 3 2", "cook 4 0", "cook 7 3")
	for _, day := range []int{0, 1, 3, 4, 7, 8} {
		servedAs(t, o, day, [4]int{}, api.ErrState)
	}
	accept(t, o, "eat 0 2", "eat 1 1", "eat 3 0", "eat 4 0", "eat 7 3")
	for day, want := range map[int][4]int{0: {10, 2, 8, 0}, 1: {1, 1, 0, 2}, 3: {2, 0, 2, 0}, 4: {0, 0, 0, 2}, 7: {3, 3, 0, 0}} {
		servedAs(t, o, day, want, api.OK)
	}
	accept(t, o, "at 9000", "cancel 2 0 5", "order 3 3 5", "order 3 7 8", "order 1 7 8")
	for day, want := range map[int][4]int{0: {10, 2, 8, 0}, 1: {1, 1, 0, 1}, 3: {2, 0, 2, 0}, 4: {0, 0, 0, 2}, 7: {3, 3, 0, 0}} {
		servedAs(t, o, day, want, api.OK)
	}
	for day, want := range noSchoolDays() {
		servedAs(t, o, day, [4]int{}, want)
	}
	servedAs(t, o, 8, [4]int{}, api.ErrState)
}

// P9.5: Label returns the label of a dish, with all that follows by the rules.
func TestLabel(t *testing.T) {
	o := open(t, "dish soup 0", "dish pie 3", "dish jam 2")
	for name, want := range map[string][]int{"soup": {}, "pie": {0, 1, 3}, "jam": {1}} {
		if label, e := o.Label(name); !slices.Equal(label, want) || e != api.OK {
			t.Errorf("Label of %q: %v, %v", name, label, e)
		}
	}
	for _, name := range []string{"", "ham", "Soup", "soup ", "sou", "soups", "0", "3", "\xff"} {
		if label, e := o.Label(name); len(label) != 0 || e != api.ErrNone {
			t.Errorf("Label of %q: %v, %v", name, label, e)
		}
	}
}

// P9.5: Due is 100 for each school day with a meal that is not free.
func TestDue(t *testing.T) {
	o := open(t, "child 8", "child 0", "child 99")
	owes(t, o, 8, 0)
	accept(t, o, "order 8 0 21", "order 0 2 7", "order 99 20 1000")
	owes(t, o, 8, 1400)
	owes(t, o, 0, 200)
	owes(t, o, 99, 0)
	accept(t, o, "free 8 0 5", "free 0 4 5")
	owes(t, o, 8, 1000)
	owes(t, o, 0, 100)
	accept(t, o, "free 8 2 8", "free 8 20 1000", "free 8 5 7", "free 99 0 21")
	owes(t, o, 8, 900)
	accept(t, o, "free 8 0 1000")
	owes(t, o, 8, 0)
	owes(t, o, 0, 100)
	for _, child := range []int{-1, 1, 7, 9, 98, 100, math.MinInt, math.MaxInt} {
		if pence, e := o.Due(child); pence != 0 || e != api.ErrNone {
			t.Errorf("Due of %d: %d, %v", child, pence, e)
		}
	}
}

// P9.5: what is cancelled up to the minute 1440 ahead of its day is not paid; what is cancelled later is. Of the day 0 nothing is known in time.
func TestDueOfCancelled(t *testing.T) {
	for _, c := range []struct {
		at     string
		cancel string
		want   int
	}{
		{"4320", "4 5", 300}, {"4321", "4 5", 400}, {"4319", "4 5", 300}, {"2880", "3 4", 300}, {"2881", "3 4", 400}, {"2881", "3 5", 300},
		{"0", "0 1", 300}, {"0", "1 2", 300}, {"1", "1 2", 400}, {"0", "0 5", 0}, {"1440000", "0 5", 300},
	} {
		o := open(t, "child 8", "order 8 0 5", "at "+c.at, "cancel 8 "+c.cancel)
		owes(t, o, 8, c.want)
	}
}
