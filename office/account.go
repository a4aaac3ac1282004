package office

import (
	"canteen/api"
	"canteen/dish"
	"canteen/order"
	"canteen/term"
)

const (
	// price is the price of the meal in pence.
	price = 100
	// cut is how many minutes ahead of its day a meal must be cancelled.
	cut = 24 * 60
)

// account is what Served returns of a day.
type account struct {
	cooked, eaten, wasted, missing int
	e                              api.Errno
}

// Meal returns the name of the dish of a day.
func (o *Office) Meal(day int) (string, api.Errno) {
	if o == nil {
		return "", api.ErrArg
	}
	o.mutex.Lock()
	defer o.mutex.Unlock()
	menu, e := term.Menu(o.term, o.cycle, day)
	if e != api.OK {
		return "", e
	}
	if menu >= len(o.dishes) {
		return "", api.ErrNone
	}
	return o.dishes[menu].Name, api.OK
}

// Portions returns how many children have the meal on a day.
func (o *Office) Portions(day int) (int, api.Errno) {
	if o == nil {
		return 0, api.ErrArg
	}
	o.mutex.Lock()
	defer o.mutex.Unlock()
	if e := o.checkDay(day); e != api.OK {
		return 0, e
	}
	return o.portions(day), api.OK
}

// portions is Portions for a school day.
func (o *Office) portions(day int) int {
	children, _ := order.Children(o.facts, o.now, day, meal)
	return len(children)
}

// Served returns how many portions of a day were cooked, eaten, wasted and missing.
func (o *Office) Served(day int) (cooked, eaten, wasted, missing int, e api.Errno) {
	if o == nil {
		return 0, 0, 0, 0, api.ErrArg
	}
	o.mutex.Lock()
	defer o.mutex.Unlock()
	a := o.account(day)
	return a.cooked, a.eaten, a.wasted, a.missing, a.e
}

// account returns the account of a day.
func (o *Office) account(day int) account {
	if e := o.checkDay(day); e != api.OK {
		return account{e: e}
	}
	s := o.served[day]
	if !s.isKnown {
		return account{e: api.ErrState}
	}
	missing := max(o.portions(day)-s.cooked, 0)
	return account{cooked: s.cooked, eaten: s.eaten, wasted: s.cooked - s.eaten, missing: missing}
}

// Label returns the label of a dish.
func (o *Office) Label(name string) ([]int, api.Errno) {
	if o == nil {
		return nil, api.ErrArg
	}
	o.mutex.Lock()
	defer o.mutex.Unlock()
	d, is := o.dishNamed(name)
	if !is {
		return nil, api.ErrNone
	}
	return dish.Label(o.items, d.Item)
}

// Due returns what a child owes.
func (o *Office) Due(child int) (int, api.Errno) {
	if o == nil {
		return 0, api.ErrArg
	}
	o.mutex.Lock()
	defer o.mutex.Unlock()
	if _, is := o.place(child); !is {
		return 0, api.ErrNone
	}
	return o.due(child, o.schoolDays()), api.OK
}

// due returns what a child owes for days.
func (o *Office) due(child int, days []int) int {
	prices := make([]int, api.MaxMeal)
	prices[meal-1] = price
	sum := 0
	for _, day := range days {
		pence, _ := order.Bill(o.facts, o.rights, prices, cut, child, day, day+1)
		sum += pence
	}
	return sum
}

// schoolDays returns all school days: those with the only menu of a cycle of one.
func (o *Office) schoolDays() []int {
	days, _ := term.Days(o.term, api.Cycle{Menus: 1}, 0)
	return days
}
