package office

import (
	"errors"
	"slices"
	"strings"

	"canteen/api"
	"canteen/order"
)

// Read returns the orders of the lines with which a book begins, and the rest.
func Read(book string) ([]string, string) {
	var lines []string
	rest := book
	for len(lines) < api.MaxBook {
		line, behind, ends := strings.Cut(rest, "\n")
		if !ends || line == "" || len(line) > api.MaxLine {
			break
		}
		lines, rest = append(lines, line), behind
	}
	return lines, rest
}

// Replay makes an office from a book and returns it with the number of its orders, or the error of the first order that is refused, with its number.
func Replay(t api.Term, c api.Cycle, b api.Book, book string) (*Office, int, api.Errno) {
	o, e := New(t, c, b)
	if e != api.OK {
		return nil, 0, e
	}
	lines, rest := Read(book)
	if rest != "" {
		return nil, 0, api.ErrSyntax
	}
	for _, line := range lines {
		var no refusal
		if errors.As(o.execute(line), &no) {
			return nil, no.number, no.why
		}
	}
	return o, len(lines), api.OK
}

// Run makes an office, executes orders, and returns their errors and the book.
func Run(t api.Term, c api.Cycle, b api.Book, orders []string) ([]api.Errno, string, api.Errno) {
	o, e := New(t, c, b)
	if e != api.OK {
		return nil, "", e
	}
	if len(orders) > api.MaxBook {
		return nil, "", api.ErrLarge
	}
	var results []api.Errno
	for _, line := range orders {
		results = append(results, o.Do(line))
	}
	return results, o.Book(), api.OK
}

// Audit reports whether all that is kept is valid, nobody is harmed, and the book makes an equal office.
func (o *Office) Audit() bool {
	if o == nil {
		return false
	}
	o.mutex.Lock()
	defer o.mutex.Unlock()
	if order.Validate(o.facts) != api.OK || order.ValidateRights(o.rights) != api.OK {
		return false
	}
	for menu, d := range o.dishes {
		if o.harms(menu, d.Item) {
			return false
		}
	}
	again, _, e := Replay(o.term, o.cycle, o.items, o.text())
	return e == api.OK && o.isLike(again) && o.countsLike(again)
}

// isLike reports whether two offices have an equal minute, dishes, children and facts.
func (o *Office) isLike(other *Office) bool {
	sameChild := func(a, b Child) bool { return a.Number == b.Number && slices.Equal(a.Avoid, b.Avoid) }
	return o.now == other.now && slices.Equal(o.dishes, other.dishes) && slices.EqualFunc(o.eaters, other.eaters, sameChild) && slices.Equal(o.facts, other.facts)
}

// countsLike reports whether two offices of a term with the same children have the same accounts of all days, and the same is owed to them.
func (o *Office) countsLike(other *Office) bool {
	for day := range o.term.Length {
		if o.account(day) != other.account(day) {
			return false
		}
	}
	days := o.schoolDays()
	for _, c := range o.eaters {
		if o.due(c.Number, days) != other.due(c.Number, days) {
			return false
		}
	}
	return true
}
