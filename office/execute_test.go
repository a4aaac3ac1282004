package office

import (
	"reflect"
	"slices"
	"strconv"
	"testing"

	"canteen/api"
)

// P9.2: at sets the minute, which never goes back.
func TestAt(t *testing.T) {
	o := open(t)
	for _, minute := range []int{0, 1, 1, 1439, 1440, 30240, 30241, 1439999, 1440000, 1440000} {
		accept(t, o, "at "+strconv.Itoa(minute))
		if o.Now() != minute {
			t.Errorf("Now: %d, want %d", o.Now(), minute)
		}
		if minute > 0 {
			refuse(t, o, api.ErrOrder, "at 0", "at "+strconv.Itoa(minute-1))
		}
		refuse(t, o, api.ErrLarge, "at 1440001", "at 2000000")
	}
}

// P9.2: the dishes are the menus of the cycle from 0 on, in the order in which they are named.
func TestDishOrders(t *testing.T) {
	o := open(t, "dish soup 2")
	refuse(t, o, api.ErrName, "dish soup 1", "dish soup 2", "dish soup 9", "dish 2soup 1", "dish souppeas9 1", "dish 7 9")
	refuse(t, o, api.ErrNone, "dish pie 4", "dish pie 5", "dish pie 2000000")
	accept(t, o, "dish pie 3", "dish jam 2")
	if l := o.Dishes(); !slices.Equal(l, []Dish{{"soup", 2}, {"pie", 3}, {"jam", 2}}) {
		t.Errorf("Dishes: %v", l)
	}
	refuse(t, o, api.ErrState, "dish cake 0", "dish soup 0", "dish 1 0", "dish cake 9")
	if !o.Audit() {
		t.Error("Audit")
	}
}

// P9.2: a cycle need not begin with the first dish.
func TestDishesOfTurnedCycle(t *testing.T) {
	o, e := New(threeWeeks(), api.Cycle{Menus: 2, First: 1, Kind: api.Waits}, fourItems())
	if e != api.OK {
		t.Fatal(e)
	}
	accept(t, o, "dish soup 0", "child 8 0", "order 8 0 1", "cancel 8 0 1", "order 8 1 2")
	accept(t, o, "dish pie 1", "cancel 8 1 2")
	refuse(t, o, api.ErrState, "dish jam 0")
	refuse(t, o, api.ErrHarm, "order 8 0 1")
	for day, want := range map[int]string{0: "pie", 1: "soup", 3: "pie", 4: "soup", 7: "pie"} {
		if name, e := o.Meal(day); name != want || e != api.OK {
			t.Errorf("Meal of %d: %q, %v", day, name, e)
		}
	}
}

// P9.2: a book without items has no dish, and a cycle of one menu has only one.
func TestNoItems(t *testing.T) {
	o, e := New(threeWeeks(), api.Cycle{Menus: 1}, api.Book{})
	if e != api.OK {
		t.Fatal(e)
	}
	refuse(t, o, api.ErrNone, "dish soup 0")
	refuse(t, o, api.ErrName, "dish 1 0")
	refuse(t, o, api.ErrArg, "child 1 0")
	accept(t, o, "child 1")
}

// P9.2: a dish is refused if a child who has ordered its menu must avoid something in its label.
func TestDishHarms(t *testing.T) {
	// the days of the menu 0 are 0 3 8 11 16; the item 3 has the properties 0 1 3, of which the last one follows by a rule
	for _, c := range []struct {
		avoid, item string
		harms       bool
	}{{"0", "1", true}, {"0", "3", true}, {"1", "3", true}, {"3", "3", true}, {"2 3", "3", true}, {"0 1 2 3", "2", true}, {"0", "2", false}, {"1", "1", false}, {"2", "3", false}, {"3", "1", false}, {"0 1 2 3", "0", false}} {
		for _, days := range []struct {
			span string
			eats bool
		}{{"0 1", true}, {"3 4", true}, {"16 17", true}, {"0 21", true}, {"11 14", true}, {"1 3", false}, {"12 16", false}, {"17 1000", false}, {"5 7", false}, {"2 3", false}} {
			o := open(t, "child 8 "+c.avoid, "child 7", "order 7 0 21", "order 8 "+days.span)
			line := "dish soup " + c.item
			if c.harms && days.eats {
				refuse(t, o, api.ErrHarm, line)
				accept(t, o, "cancel 8 0 21")
			}
			accept(t, o, line)
			if !o.Audit() {
				t.Errorf("Audit after %v, %v", c, days)
			}
		}
	}
}

// P9.2: only what is known now of a child makes a dish harmful, and the other errors come before it.
func TestDishHarmsNow(t *testing.T) {
	o := open(t, "child 8 0", "order 8 0 9", "at 20", "cancel 8 0 1", "cancel 8 8 9")
	refuse(t, o, api.ErrHarm, "dish soup 1") // the day 3
	refuse(t, o, api.ErrName, "dish 1soup 1", "dish souppeas9 1")
	refuse(t, o, api.ErrNone, "dish soup 4")
	accept(t, o, "cancel 8 3 4", "dish soup 1")
	refuse(t, o, api.ErrName, "dish soup 1")
	refuse(t, o, api.ErrHarm, "dish pie 1", "order 8 0 1")
	accept(t, o, "dish pie 0")
	refuse(t, o, api.ErrHarm, "dish jam 1") // the day 7
	accept(t, o, "at 30", "cancel 8 7 8", "dish jam 1")
	refuse(t, o, api.ErrState, "dish ham 1")
}

// P9.2: children stand in the order of their numbers, with a set of properties of the book.
func TestChildOrders(t *testing.T) {
	o := open(t, "child 50 0 1 2 3", "child 99", "child 0 2", "child 7 0 3", "child 51")
	want := []Child{{0, []int{2}}, {7, []int{0, 3}}, {50, []int{0, 1, 2, 3}}, {51, nil}, {99, nil}}
	got := o.Eaters()
	for i := range got {
		if len(got[i].Avoid) == 0 {
			got[i].Avoid = nil
		}
	}
	if !reflect.DeepEqual(got, want) {
		t.Errorf("Eaters: %v", got)
	}
	refuse(t, o, api.ErrArg, "child 100", "child 101 0", "child 2000000", "child 8 4", "child 8 0 4", "child 8 1 0", "child 8 0 0", "child 8 0 2 1", "child 8 3 3", "child 8 0 1 2 3 4", "child 100 4")
	refuse(t, o, api.ErrTwice, "child 0", "child 0 2", "child 7", "child 50 1", "child 51", "child 99 0")
	refuse(t, o, api.ErrArg, "child 0 4", "child 99 1 0") // ahead of ErrTwice
	accept(t, o, "child 8 3", "child 98")
}

// P9.3: order and cancel write facts with the minute that is now.
func TestOrderFacts(t *testing.T) {
	o := open(t, "child 8", "child 0", "order 8 0 5", "at 20", "cancel 8 2 3", "cancel 0 0 1000", "at 1440000", "order 0 999 1000", "order 8 2 3", "order 8 21 30")
	want := []api.Fact{
		{At: 0, Child: 8, From: 0, To: 5, Meal: 1},
		{At: 20, Child: 8, From: 2, To: 3, Meal: 0},
		{At: 20, Child: 0, From: 0, To: 1000, Meal: 0},
		{At: 1440000, Child: 0, From: 999, To: 1000, Meal: 1},
		{At: 1440000, Child: 8, From: 2, To: 3, Meal: 1},
		{At: 1440000, Child: 8, From: 21, To: 30, Meal: 1},
	}
	if l := o.Facts(); !slices.Equal(l, want) {
		t.Errorf("Facts: %v", l)
	}
	for _, verb := range []string{"order", "cancel", "free"} {
		refuse(t, o, api.ErrNone, verb+" 9 0 1", verb+" 100 0 1", verb+" 1 5 5", verb+" 7 0 1001")
		refuse(t, o, api.ErrArg, verb+" 8 0 0", verb+" 8 5 4", verb+" 0 0 1001", verb+" 8 1000 1001", verb+" 8 1000 1000", verb+" 8 2000000 0")
	}
}

// P9.3: an order is refused if a school day of it has a dish that the child must avoid.
func TestOrderHarms(t *testing.T) {
	o := open(t, "dish soup 0", "dish pie 3", "child 1 0", "child 2 3", "child 3 2", "child 4", "child 5 1 2")
	// the days of the menu 1 are 1 4 9 14 17
	for _, child := range []string{"1", "2", "5"} {
		refuse(t, o, api.ErrHarm, "order "+child+" 0 21", "order "+child+" 1 2", "order "+child+" 0 2", "order "+child+" 4 7", "order "+child+" 10 15", "order "+child+" 17 1000", "order "+child+" 0 1001", "order "+child+" 17 2000000")
		accept(t, o, "order "+child+" 0 1", "order "+child+" 2 4", "order "+child+" 5 9", "order "+child+" 10 14", "order "+child+" 18 1000", "order "+child+" 21 1000")
		refuse(t, o, api.ErrArg, "order "+child+" 1 1", "order "+child+" 2 1", "order "+child+" 18 1001", "order "+child+" 5 0")
		accept(t, o, "cancel "+child+" 0 21")
		refuse(t, o, api.ErrArg, "cancel "+child+" 0 1001")
	}
	accept(t, o, "order 3 0 21", "order 4 0 21")
	if !o.Audit() {
		t.Error("Audit")
	}
}

// P9.3: a table has at most MaxFacts facts; harm comes before this.
func TestFullTable(t *testing.T) {
	o := open(t, "child 8", "child 9 0", "dish soup 1")
	for range api.MaxFacts {
		accept(t, o, "order 8 0 5")
	}
	refuse(t, o, api.ErrLarge, "order 8 0 5", "cancel 8 0 5", "order 8 5 5", "cancel 8 5 5", "order 9 1 2", "cancel 9 0 1001")
	refuse(t, o, api.ErrHarm, "order 9 0 1")
	refuse(t, o, api.ErrNone, "order 7 0 5", "cancel 7 0 5")
	accept(t, o, "free 8 0 5")
	if !o.Audit() {
		t.Error("Audit")
	}
}

// P9.3: there are at most MaxFacts rights.
func TestFullRights(t *testing.T) {
	o := open(t, "child 8", "order 8 0 9")
	for range api.MaxFacts {
		accept(t, o, "free 8 0 1")
	}
	refuse(t, o, api.ErrLarge, "free 8 0 1", "free 8 1 1", "free 8 3 1001")
	refuse(t, o, api.ErrNone, "free 9 0 1")
	accept(t, o, "order 8 0 5")
	owes(t, o, 8, 500)
}

// P9.4: portions are cooked once and then eaten once on a school day.
func TestCookAndEat(t *testing.T) {
	o := open(t, "cook 0 100000", "cook 1 0", "cook 18 7")
	for _, day := range []string{"2", "5", "6", "12", "19", "20", "21", "22", "1000", "2000000"} {
		refuse(t, o, api.ErrClosed, "cook "+day+" 1", "cook "+day+" 100001", "eat "+day+" 0", "eat "+day+" 100001")
	}
	refuse(t, o, api.ErrState, "cook 0 5", "cook 1 0", "cook 18 100001", "eat 3 0", "eat 3 1", "eat 4 100001")
	refuse(t, o, api.ErrLarge, "cook 3 100001", "cook 4 2000000")
	refuse(t, o, api.ErrShort, "eat 1 1", "eat 18 8", "eat 0 100001", "eat 18 2000000")
	accept(t, o, "eat 18 7", "eat 1 0", "eat 0 99999")
	refuse(t, o, api.ErrState, "eat 18 7", "eat 18 8", "eat 1 0", "cook 18 7", "eat 0 100001")
	accept(t, o, "cook 3 5", "at 1440000", "eat 3 5")
	if !o.Audit() {
		t.Error("Audit")
	}
}
