package office

import (
	"fmt"
	"math/rand"
	"reflect"
	"regexp"
	"slices"
	"strconv"
	"strings"
	"testing"

	"canteen/api"
)

// model is an office by the words of the chapter, without the other layers.
type model struct {
	term          api.Term
	cycle         api.Cycle
	book          api.Book
	now           int
	dishes        []Dish
	avoid         map[int][]int
	facts         []api.Fact
	rights        []api.Right
	cooked, eaten map[int]int
	lines         []string
}

// newModel returns a model of an office that has nothing but a term, a cycle and a book.
func newModel(t api.Term, c api.Cycle, b api.Book) *model {
	return &model{term: t, cycle: c, book: b, avoid: map[int][]int{}, cooked: map[int]int{}, eaten: map[int]int{}}
}

// isOpen reports whether a day is a school day.
func (m *model) isOpen(day int) bool {
	return day >= 0 && day < m.term.Length && !slices.Contains(m.term.Rest, day%7) && !slices.Contains(m.term.Closed, day)
}

// menuOf returns the menu of a day, or -1 if there is none.
func (m *model) menuOf(day int) int {
	if !m.isOpen(day) {
		return -1
	}
	menu := m.cycle.First
	for before := range day {
		if m.isOpen(before) || m.cycle.Kind == api.Runs && !slices.Contains(m.term.Rest, before%7) {
			menu++
		}
	}
	return menu % m.cycle.Menus
}

// has adds what an item contains to the properties.
func (m *model) has(item int, props map[int]bool) {
	for _, prop := range m.book.Items[item].Has {
		props[prop] = true
	}
	for _, part := range m.book.Items[item].Parts {
		m.has(part, props)
	}
}

// labelOf returns the label of an item.
func (m *model) labelOf(item int) []int {
	props := map[int]bool{}
	m.has(item, props)
	for range m.book.Props + 1 { // each time one more property follows, or none
		for _, r := range m.book.Rules {
			if !slices.ContainsFunc(r.If, func(prop int) bool { return !props[prop] }) {
				props[r.Then] = true
			}
		}
	}
	label := []int{}
	for prop := range m.book.Props {
		if props[prop] {
			label = append(label, prop)
		}
	}
	return label
}

// knownAt returns the meal of a child on a day as it is known at a minute.
func (m *model) knownAt(minute, child, day int) int {
	known := 0
	for _, f := range m.facts {
		if f.At <= minute && f.Child == child && f.From <= day && day < f.To {
			known = f.Meal
		}
	}
	return known
}

// mustAvoid reports whether a child must avoid a property of an item.
func (m *model) mustAvoid(child, item int) bool {
	return slices.ContainsFunc(m.labelOf(item), func(prop int) bool { return slices.Contains(m.avoid[child], prop) })
}

// dueOf returns what a child owes.
func (m *model) dueOf(child int) int {
	sum := 0
	for day := range m.term.Length {
		isFree := slices.ContainsFunc(m.rights, func(r api.Right) bool { return r.Child == child && r.From <= day && day < r.To })
		if m.isOpen(day) && !isFree {
			sum += 100 * max(m.knownAt(day*1440-1440, child, day), m.knownAt(1<<40, child, day))
		}
	}
	return sum
}

// syntax is what an order is, but for the greatest numbers.
var syntax = regexp.MustCompile(`^(at N|dish [a-z0-9]+ N|child N( N)*|(order|cancel|free) N N N|(cook|eat) N N)$`)

// number is a number of an order.
var number = regexp.MustCompile(`^(0|[1-9][0-9]*)$`)

// parse returns the first word of an order, its name and its numbers, and whether it is one.
func (m *model) parse(line string) (verb, name string, numbers []int, is bool) {
	words := strings.Split(line, " ")
	shape := slices.Clone(words)
	for i, word := range words {
		if n, err := strconv.Atoi(word); number.MatchString(word) && !(words[0] == "dish" && i == 1) {
			if err != nil || n > 2000000 {
				return "", "", nil, false
			}
			numbers, shape[i] = append(numbers, n), "N"
		}
	}
	if len(line) > 60 || !syntax.MatchString(strings.Join(shape, " ")) {
		return "", "", nil, false
	}
	if words[0] == "dish" {
		name = words[1]
	}
	return words[0], name, numbers, true
}

// do executes an order.
func (m *model) do(line string) api.Errno {
	verb, name, n, is := m.parse(line)
	if !is {
		return api.ErrSyntax
	}
	if len(m.lines) == 200 {
		return api.ErrLarge
	}
	e := api.OK
	switch verb {
	case "at":
		e = m.at(n[0])
	case "dish":
		e = m.dish(name, n[0])
	case "child":
		e = m.child(n[0], n[1:])
	case "cook", "eat":
		e = m.serve(verb, n[0], n[1])
	default:
		e = m.days(verb, n[0], n[1], n[2])
	}
	if e == api.OK {
		m.lines = append(m.lines, line)
	}
	return e
}

// at executes an order of this kind.
func (m *model) at(minute int) api.Errno {
	if minute < m.now {
		return api.ErrOrder
	}
	if minute > 1440000 {
		return api.ErrLarge
	}
	m.now = minute
	return api.OK
}

// dish executes an order of this kind.
func (m *model) dish(name string, item int) api.Errno {
	if len(m.dishes) == m.cycle.Menus {
		return api.ErrState
	}
	if !regexp.MustCompile(`^[a-z][a-z0-9]{0,7}$`).MatchString(name) || slices.ContainsFunc(m.dishes, func(d Dish) bool { return d.Name == name }) {
		return api.ErrName
	}
	if item >= len(m.book.Items) {
		return api.ErrNone
	}
	for child := range m.avoid {
		for day := range m.term.Length {
			if m.menuOf(day) == len(m.dishes) && m.knownAt(m.now, child, day) == 1 && m.mustAvoid(child, item) {
				return api.ErrHarm
			}
		}
	}
	m.dishes = append(m.dishes, Dish{name, item})
	return api.OK
}

// child executes an order of this kind.
func (m *model) child(child int, avoid []int) api.Errno {
	for i, prop := range avoid {
		if prop >= m.book.Props || i > 0 && prop <= avoid[i-1] {
			return api.ErrArg
		}
	}
	if child > 99 {
		return api.ErrArg
	}
	if _, is := m.avoid[child]; is {
		return api.ErrTwice
	}
	m.avoid[child] = avoid
	return api.OK
}

// days executes an order about a child and days.
func (m *model) days(verb string, child, from, to int) api.Errno {
	if _, is := m.avoid[child]; !is {
		return api.ErrNone
	}
	for day := range m.term.Length {
		menu := m.menuOf(day)
		if verb == "order" && from <= day && day < to && menu >= 0 && menu < len(m.dishes) && m.mustAvoid(child, m.dishes[menu].Item) {
			return api.ErrHarm
		}
	}
	if verb == "free" && len(m.rights) == 60 || verb != "free" && len(m.facts) == 60 {
		return api.ErrLarge
	}
	if from >= to || to > 1000 {
		return api.ErrArg
	}
	switch verb {
	case "free":
		m.rights = append(m.rights, api.Right{Child: child, From: from, To: to})
	case "order":
		m.facts = append(m.facts, api.Fact{At: m.now, Child: child, From: from, To: to, Meal: 1})
	case "cancel":
		m.facts = append(m.facts, api.Fact{At: m.now, Child: child, From: from, To: to})
	}
	return api.OK
}

// serve executes an order to cook or to eat.
func (m *model) serve(verb string, day, count int) api.Errno {
	cooked, isCooked := m.cooked[day]
	_, isEaten := m.eaten[day]
	switch {
	case !m.isOpen(day):
		return api.ErrClosed
	case verb == "cook" && isCooked, verb == "eat" && (!isCooked || isEaten):
		return api.ErrState
	case verb == "eat" && count > cooked:
		return api.ErrShort
	case count > 100000:
		return api.ErrLarge
	case verb == "cook":
		m.cooked[day] = count
	default:
		m.eaten[day] = count
	}
	return api.OK
}

// state returns all that the office shows.
func (m *model) state() state {
	s := state{now: m.now, dishes: append([]Dish{}, m.dishes...), facts: append([]api.Fact{}, m.facts...)}
	for _, line := range m.lines {
		s.book += line + "\n"
	}
	for child := range 100 {
		if avoid, is := m.avoid[child]; is {
			s.eaters = append(s.eaters, Child{child, append([]int{}, avoid...)})
		}
	}
	for day := -1; day <= 22; day++ {
		s.days = append(s.days, m.dayState(day))
	}
	for _, name := range []string{"", "a", "b", "c", "soup", "pie", "jam"} {
		label := result{[]int{}, api.ErrNone}
		for _, d := range m.dishes {
			if d.Name == name {
				label = result{m.labelOf(d.Item), api.OK}
			}
		}
		s.labels = append(s.labels, label)
	}
	for _, child := range []int{-1, 0, 1, 2, 3, 4, 5, 6, 7, 8, 9, 99, 100} {
		due := result{0, api.ErrNone}
		if _, is := m.avoid[child]; is {
			due = result{m.dueOf(child), api.OK}
		}
		s.dues = append(s.dues, due)
	}
	return s
}

// dayState returns what the office shows of a day.
func (m *model) dayState(day int) dayState {
	if !m.isOpen(day) {
		e := api.ErrClosed
		if day < 0 || day >= m.term.Length {
			e = api.ErrArg
		}
		return dayState{meal: result{"", e}, portions: result{0, e}, e: e}
	}
	s := dayState{meal: result{"", api.ErrNone}, e: api.ErrState}
	if menu := m.menuOf(day); menu < len(m.dishes) {
		s.meal = result{m.dishes[menu].Name, api.OK}
	}
	portions := 0
	for child := range m.avoid {
		portions += m.knownAt(m.now, child, day)
	}
	s.portions = result{portions, api.OK}
	if eaten, is := m.eaten[day]; is {
		s.served, s.e = [4]int{m.cooked[day], eaten, m.cooked[day] - eaten, max(portions-m.cooked[day], 0)}, api.OK
	}
	return s
}

// isSafe reports S7: no child has a meal that it must avoid.
func (m *model) isSafe() bool {
	for day := range m.term.Length {
		for child := range m.avoid {
			menu := m.menuOf(day)
			if menu >= 0 && menu < len(m.dishes) && m.knownAt(m.now, child, day) == 1 && m.mustAvoid(child, m.dishes[menu].Item) {
				return false
			}
		}
	}
	return true
}

// subset returns each number below end with a chance of one in so many.
func subset(r *rand.Rand, end, one int) []int {
	var l []int
	for x := range end {
		if r.Intn(one) == 0 {
			l = append(l, x)
		}
	}
	return l
}

// randomSet returns a term, a cycle and a book.
func randomSet(r *rand.Rand) (api.Term, api.Cycle, api.Book) {
	length := 1 + r.Intn(21)
	t := api.Term{Length: length, Rest: subset(r, 6, 4), Closed: subset(r, length, 6)}
	menus := 1 + r.Intn(3)
	c := api.Cycle{Menus: menus, First: r.Intn(menus), Kind: r.Intn(2)}
	b := api.Book{Props: r.Intn(5)}
	for item := range 1 + r.Intn(4) {
		b.Items = append(b.Items, api.Item{Parts: subset(r, item, 3), Has: subset(r, b.Props, 4)})
	}
	for range r.Intn(4) * min(b.Props, 1) {
		b.Rules = append(b.Rules, api.Rule{If: subset(r, b.Props, 3), Then: r.Intn(b.Props)})
	}
	return t, c, b
}

// randomOrder returns an order; some are none.
func randomOrder(r *rand.Rand, now int) string {
	child := r.Intn(6)
	day := r.Intn(24) - 1
	switch r.Intn(20) {
	case 0:
		return fmt.Sprint("at ", now+r.Intn(4000)-200)
	case 1, 2:
		return fmt.Sprint("dish ", []string{"a", "b", "c", "soup", "pie", "1a", "jam"}[r.Intn(7)], " ", r.Intn(5))
	case 3, 4, 5:
		avoid := subset(r, 5, 3)
		line := fmt.Sprint("child ", child)
		for _, prop := range avoid {
			line += fmt.Sprint(" ", prop)
		}
		return line
	case 6, 7, 8, 9:
		return fmt.Sprint("order ", child, " ", max(day, 0), " ", day+r.Intn(4))
	case 10, 11:
		return fmt.Sprint("cancel ", child, " ", max(day, 0), " ", day+r.Intn(8))
	case 12, 13:
		return fmt.Sprint("free ", child, " ", max(day, 0), " ", day+r.Intn(6))
	case 14, 15:
		return fmt.Sprint("cook ", day, " ", r.Intn(5))
	case 16, 17:
		return fmt.Sprint("eat ", day, " ", r.Intn(4))
	}
	words := []string{"at", "dish", "child", "order", "cancel", "cook", "eat", "soup", "", "0", "1", "2", "05", "1440001", "2000001"}
	line := words[r.Intn(len(words))]
	for range r.Intn(4) {
		line += " " + words[r.Intn(len(words))]
	}
	return line
}

// follow executes random orders in an office and in its model, and compares all that they show; then the book and its beginnings must make the office again.
func follow(t *testing.T, r *rand.Rand, orders int) {
	a, b, c := randomSet(r)
	o, e := New(a, b, c)
	if e != api.OK {
		t.Fatalf("New of %v, %v, %v: %v", a, b, c, e)
	}
	m := newModel(a, b, c)
	states := []state{m.state()}
	for range orders {
		line := randomOrder(r, m.now)
		got, want := o.Do(line), m.do(line)
		x, y := stateOf(o), m.state()
		if got != want || !reflect.DeepEqual(x, y) || !m.isSafe() {
			t.Fatalf("%v, %v, %v: %q behind %q: %v, want %v; %v, want %v", a, b, c, line, m.lines, got, want, x, y)
		}
		if got == api.OK {
			states = append(states, y)
		}
	}
	if !o.Audit() {
		t.Fatalf("Audit of %q", m.lines)
	}
	n := r.Intn(len(states))
	for _, n := range []int{n, len(m.lines)} {
		again, count, e := Replay(a, b, c, bookOf(m.lines[:n]))
		if e != api.OK || count != n || !reflect.DeepEqual(stateOf(again), states[n]) || !again.Audit() {
			t.Fatalf("Replay of %q: %d, %v", m.lines[:n], count, e)
		}
	}
}

// P9.1 to P9.6 and S7: offices are what the chapter says, for random orders.
func TestModel(t *testing.T) {
	r := rand.New(rand.NewSource(9))
	for range 300 {
		follow(t, r, 60)
	}
	for range 4 {
		follow(t, r, 900)
	}
}
