package office

import (
	"cmp"
	"slices"
	"strconv"

	"canteen/api"
	"canteen/dish"
	"canteen/order"
	"canteen/term"
)

const (
	// meal is the meal that children order, and none is what they have when it is cancelled.
	meal, none = 1, 0
	// lastMinute is the last minute that can be now.
	lastMinute = api.MaxDay * 24 * 60
	// maxPortions is how many portions can be cooked for a day.
	maxPortions = 100000
)

// refusal is the error of an order that is refused: the number that it would have in the book, and why.
type refusal struct {
	number int
	why    api.Errno
}

// Error returns the text of a refusal.
func (r refusal) Error() string {
	return "order " + strconv.Itoa(r.number) + " is refused: error " + strconv.Itoa(int(r.why))
}

// execute executes an order and writes it into the book, or returns its refusal.
func (o *Office) execute(line string) error {
	if e := o.attempt(line); e != api.OK {
		return refusal{number: len(o.orders), why: e}
	}
	o.orders = append(o.orders, line)
	return nil
}

// attempt executes an order without writing it into the book.
func (o *Office) attempt(line string) api.Errno {
	c, is := parse(line)
	if !is {
		return api.ErrSyntax
	}
	if len(o.orders) >= api.MaxBook {
		return api.ErrLarge
	}
	n := c.numbers
	switch c.kind {
	case kindAt:
		return o.setMinute(n[0])
	case kindDish:
		return o.nameDish(c.name, n[0])
	case kindChild:
		return o.addChild(n[0], n[1:])
	case kindOrder:
		return o.orderMeals(n[0], n[1], n[2])
	case kindCancel:
		return o.write(n[0], n[1], n[2], none)
	case kindFree:
		return o.free(n[0], n[1], n[2])
	case kindCook:
		return o.cook(n[0], n[1])
	default:
		return o.eat(n[0], n[1])
	}
}

// setMinute makes a minute now.
func (o *Office) setMinute(minute int) api.Errno {
	if minute < o.now {
		return api.ErrOrder
	}
	if minute > lastMinute {
		return api.ErrLarge
	}
	o.now = minute
	return api.OK
}

// nameDish makes an item the next menu of the cycle.
func (o *Office) nameDish(name string, item int) api.Errno {
	menu := len(o.dishes)
	if menu >= o.cycle.Menus {
		return api.ErrState
	}
	if _, is := o.dishNamed(name); is || !isName(name) {
		return api.ErrName
	}
	if item >= len(o.items.Items) {
		return api.ErrNone
	}
	if o.harms(menu, item) {
		return api.ErrHarm
	}
	o.dishes = append(o.dishes, Dish{Name: name, Item: item})
	return api.OK
}

// dishNamed returns the dish with a name, and whether there is one.
func (o *Office) dishNamed(name string) (Dish, bool) {
	for _, d := range o.dishes {
		if d.Name == name {
			return d, true
		}
	}
	return Dish{}, false
}

// addChild adds a child.
func (o *Office) addChild(number int, avoid []int) api.Errno {
	// whether they are a set of properties is an error that Closure returns
	if _, e := dish.Closure(o.items, avoid); e != api.OK || number > api.MaxChild {
		return api.ErrArg
	}
	place, is := o.place(number)
	if is {
		return api.ErrTwice
	}
	o.eaters = slices.Insert(o.eaters, place, Child{Number: number, Avoid: avoid})
	return api.OK
}

// place returns where a child stands, or would stand, among the eaters, and whether there is such a child.
func (o *Office) place(child int) (int, bool) {
	return slices.BinarySearchFunc(o.eaters, child, func(c Child, number int) int {
		return cmp.Compare(c.Number, number)
	})
}

// orderMeals writes that a child has the meal on days, unless it harms the child.
func (o *Office) orderMeals(child, from, to int) api.Errno {
	place, is := o.place(child)
	if !is {
		return api.ErrNone
	}
	for menu, d := range o.dishes {
		for _, day := range o.avoided(o.eaters[place], menu, d.Item) {
			if from <= day && day < to {
				return api.ErrHarm
			}
		}
	}
	return o.write(child, from, to, meal)
}

// write writes a fact about a child.
func (o *Office) write(child, from, to, what int) api.Errno {
	if _, is := o.place(child); !is {
		return api.ErrNone
	}
	facts, e := order.Add(o.facts, api.Fact{At: o.now, Child: child, From: from, To: to, Meal: what})
	if e != api.OK {
		return e
	}
	o.facts = facts
	return api.OK
}

// free writes a right of a child.
func (o *Office) free(child, from, to int) api.Errno {
	if _, is := o.place(child); !is {
		return api.ErrNone
	}
	rights := append(slices.Clone(o.rights), api.Right{Child: child, From: from, To: to})
	if e := order.ValidateRights(rights); e != api.OK {
		return e
	}
	o.rights = rights
	return api.OK
}

// cook writes how many portions were cooked for a day.
func (o *Office) cook(day, count int) api.Errno {
	if o.checkDay(day) != api.OK {
		return api.ErrClosed
	}
	if _, is := o.served[day]; is {
		return api.ErrState
	}
	if count > maxPortions {
		return api.ErrLarge
	}
	o.served[day] = serving{cooked: count}
	return api.OK
}

// eat writes how many portions were eaten on a day. These are no more than were cooked, so that they are not too many.
func (o *Office) eat(day, count int) api.Errno {
	if o.checkDay(day) != api.OK {
		return api.ErrClosed
	}
	s, is := o.served[day]
	if !is || s.isKnown {
		return api.ErrState
	}
	if count > s.cooked {
		return api.ErrShort
	}
	o.served[day] = serving{cooked: s.cooked, eaten: count, isKnown: true}
	return api.OK
}

// checkDay returns the error of a day that is no school day, or OK.
func (o *Office) checkDay(day int) api.Errno {
	open, e := term.IsOpen(o.term, day)
	if e != api.OK {
		return e
	}
	if !open {
		return api.ErrClosed
	}
	return api.OK
}

// avoided returns the school days of a menu if it is an item that a child must avoid, and otherwise none.
func (o *Office) avoided(c Child, menu, item int) []int {
	label, _ := dish.Label(o.items, item)
	for _, prop := range c.Avoid {
		if slices.Contains(label, prop) {
			days, _ := term.Days(o.term, o.cycle, menu)
			return days
		}
	}
	return nil
}

// harms reports whether a child has the meal on a school day of a menu, as it is known now, and must avoid the item that this menu is.
func (o *Office) harms(menu, item int) bool {
	for _, c := range o.eaters {
		for _, day := range o.avoided(c, menu, item) {
			if what, _ := order.Known(o.facts, o.now, c.Number, day); what == meal {
				return true
			}
		}
	}
	return false
}
