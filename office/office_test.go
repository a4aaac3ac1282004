package office

import (
	"math"
	"reflect"
	"slices"
	"testing"

	"canteen/api"
)

// threeWeeks is a term of three weeks without weekends, with a closed Wednesday and a closed Saturday: its school days are 0 1 3 4, 7 to 11 and 14 to 18.
func threeWeeks() api.Term {
	return api.Term{Length: 21, Rest: []int{5, 6}, Closed: []int{2, 12}}
}

// threeMenus is a cycle that runs: menu 0 is on 0 3 8 11 16, menu 1 on 1 4 9 14 17, menu 2 on 7 10 15 18.
func threeMenus() api.Cycle {
	return api.Cycle{Menus: 3, Kind: api.Runs}
}

// fourItems is a book whose item 0 has nothing, 1 has the property 0, 2 has 1, and 3 has 0 and 1 by its parts and 3 by a rule.
func fourItems() api.Book {
	return api.Book{
		Props: 4,
		Items: []api.Item{{}, {Has: []int{0}}, {Has: []int{1}}, {Parts: []int{1, 2}}},
		Rules: []api.Rule{{If: []int{0, 1}, Then: 3}},
	}
}

// open makes an office and executes orders that are accepted.
func open(t *testing.T, lines ...string) *Office {
	t.Helper()
	o, e := New(threeWeeks(), threeMenus(), fourItems())
	if e != api.OK || o == nil {
		t.Fatalf("New: %v, %v", o, e)
	}
	accept(t, o, lines...)
	return o
}

// accept executes orders that are accepted, and written into the book.
func accept(t *testing.T, o *Office, lines ...string) {
	t.Helper()
	for _, line := range lines {
		book := o.Book()
		if e := o.Do(line); e != api.OK {
			t.Errorf("%q: %v", line, e)
		}
		if o.Book() != book+line+"\n" {
			t.Errorf("the book after %q: %q", line, o.Book())
		}
	}
}

// refuse executes orders that are refused, and change nothing.
func refuse(t *testing.T, o *Office, want api.Errno, lines ...string) {
	t.Helper()
	for _, line := range lines {
		before := stateOf(o)
		if e := o.Do(line); e != want {
			t.Errorf("%q: %v, want %v", line, e, want)
		}
		if after := stateOf(o); !reflect.DeepEqual(before, after) {
			t.Errorf("%q was refused and changed %v to %v", line, before, after)
		}
	}
}

// state is all that an office shows.
type state struct {
	now    int
	dishes []Dish
	eaters []Child
	facts  []api.Fact
	book   string
	days   []dayState
	labels []result
	dues   []result
}

// dayState is what an office shows of a day.
type dayState struct {
	meal, portions result
	served         [4]int
	e              api.Errno
}

// result is a result, with an empty list instead of none, and its error.
type result struct {
	value any
	e     api.Errno
}

// stateOf returns all that an office shows.
func stateOf(o *Office) state {
	s := state{now: o.Now(), dishes: append([]Dish{}, o.Dishes()...), facts: append([]api.Fact{}, o.Facts()...), book: o.Book()}
	for _, c := range o.Eaters() {
		s.eaters = append(s.eaters, Child{c.Number, append([]int{}, c.Avoid...)})
	}
	for day := -1; day <= 22; day++ {
		s.days = append(s.days, dayStateOf(o, day))
	}
	for _, name := range []string{"", "a", "b", "c", "soup", "pie", "jam"} {
		label, e := o.Label(name)
		s.labels = append(s.labels, result{append([]int{}, label...), e})
	}
	for _, child := range []int{-1, 0, 1, 2, 3, 4, 5, 6, 7, 8, 9, 99, 100} {
		pence, e := o.Due(child)
		s.dues = append(s.dues, result{pence, e})
	}
	return s
}

// dayStateOf returns what an office shows of a day.
func dayStateOf(o *Office, day int) dayState {
	var s dayState
	name, e := o.Meal(day)
	s.meal = result{name, e}
	n, e := o.Portions(day)
	s.portions = result{n, e}
	s.served[0], s.served[1], s.served[2], s.served[3], s.e = o.Served(day)
	return s
}

// A new office has nothing.
func TestNew(t *testing.T) {
	o := open(t)
	if o.Now() != 0 || len(o.Dishes()) != 0 || len(o.Eaters()) != 0 || len(o.Facts()) != 0 || o.Book() != "" || !o.Audit() {
		t.Errorf("a new office: %v", stateOf(o))
	}
	for _, day := range []int{0, 1, 3, 7, 18} {
		if s := dayStateOf(o, day); s != (dayState{meal: result{"", api.ErrNone}, portions: result{0, api.OK}, e: api.ErrState}) {
			t.Errorf("the day %d of a new office: %v", day, s)
		}
	}
	for _, x := range []struct {
		term  api.Term
		cycle api.Cycle
		book  api.Book
	}{
		{api.Term{Length: 1}, api.Cycle{Menus: 1}, api.Book{}},
		{api.Term{Length: api.MaxDay, Rest: []int{0, 1, 2, 3, 4, 5}}, api.Cycle{Menus: api.MaxMenus, First: api.MaxMenus - 1, Kind: api.Runs}, api.Book{Props: api.MaxProps, Items: make([]api.Item, api.MaxItems)}},
	} {
		if o, e := New(x.term, x.cycle, x.book); e != api.OK || o == nil || !o.Audit() {
			t.Errorf("New of %v: %v", x, e)
		}
	}
}

// The examples of the chapter.
func TestExamples(t *testing.T) {
	o, e := New(api.Term{Length: 5}, api.Cycle{Menus: 1}, api.Book{Props: 1, Items: []api.Item{{Has: []int{0}}}})
	if e != api.OK {
		t.Fatal(e)
	}
	accept(t, o, "dish soup 0", "child 7 0")
	refuse(t, o, api.ErrHarm, "order 7 0 5")
	accept(t, o, "child 8", "order 8 0 5", "cook 0 3", "eat 0 2")
	servedAs(t, o, 0, [4]int{3, 2, 1, 0}, api.OK)
	owes(t, o, 8, 500)
	accept(t, o, "at 4000", "cancel 8 4 5")
	owes(t, o, 8, 400)
	if !o.Audit() {
		t.Error("Audit")
	}
}

// wrongSet is a wrong argument of New, with its place and its error.
type wrongSet struct {
	place int
	spoil func(t *api.Term, c *api.Cycle, b *api.Book)
	want  api.Errno
}

// wrongSets are wrong arguments of New.
func wrongSets() []wrongSet {
	return []wrongSet{
		{0, func(t *api.Term, _ *api.Cycle, _ *api.Book) { t.Length = 0 }, api.ErrArg},
		{0, func(t *api.Term, _ *api.Cycle, _ *api.Book) { t.Length = api.MaxDay + 1 }, api.ErrArg},
		{0, func(t *api.Term, _ *api.Cycle, _ *api.Book) { t.Rest = []int{7} }, api.ErrArg},
		{0, func(t *api.Term, _ *api.Cycle, _ *api.Book) { t.Closed = []int{21} }, api.ErrArg},
		{0, func(t *api.Term, _ *api.Cycle, _ *api.Book) { t.Closed = make([]int, api.MaxClosed+1) }, api.ErrLarge},
		{1, func(_ *api.Term, c *api.Cycle, _ *api.Book) { c.Menus = 0 }, api.ErrArg},
		{1, func(_ *api.Term, c *api.Cycle, _ *api.Book) { c.Menus = math.MaxInt }, api.ErrArg},
		{1, func(_ *api.Term, c *api.Cycle, _ *api.Book) { c.First = 3 }, api.ErrArg},
		{1, func(_ *api.Term, c *api.Cycle, _ *api.Book) { c.Kind = 2 }, api.ErrArg},
		{2, func(_ *api.Term, _ *api.Cycle, b *api.Book) { b.Props = -1 }, api.ErrArg},
		{2, func(_ *api.Term, _ *api.Cycle, b *api.Book) { b.Items = make([]api.Item, api.MaxItems+1) }, api.ErrLarge},
		{2, func(_ *api.Term, _ *api.Cycle, b *api.Book) { b.Items[3].Parts = []int{3} }, api.ErrArg},
		{2, func(_ *api.Term, _ *api.Cycle, b *api.Book) { b.Rules[0].Then = 4 }, api.ErrArg},
	}
}

// refuseSet reports an error if New, Replay and Run do not return the error of wrong arguments, and nothing else. The book and the orders have errors of their own, which come later.
func refuseSet(t *testing.T, want api.Errno, wrongs ...wrongSet) {
	t.Helper()
	a, b, c := threeWeeks(), threeMenus(), fourItems()
	for _, w := range wrongs {
		w.spoil(&a, &b, &c)
	}
	if o, e := New(a, b, c); o != nil || e != want {
		t.Errorf("New of %v, %v, %v: %v", a, b, c, e)
	}
	for _, book := range []string{"", "at 1\n", "at 1", "at 1\nbad\n"} {
		if o, n, e := Replay(a, b, c, book); o != nil || n != 0 || e != want {
			t.Errorf("Replay of %v, %v, %v: %d, %v", a, b, c, n, e)
		}
	}
	for _, n := range []int{0, 1, api.MaxBook + 1} {
		if l, text, e := Run(a, b, c, make([]string, n)); len(l) != 0 || text != "" || e != want {
			t.Errorf("Run of %v, %v, %v: %v, %q, %v", a, b, c, l, text, e)
		}
	}
}

// The errors of New are those of the term, of the cycle and of the book, in this order; Replay and Run return them first.
func TestErrorsOfNew(t *testing.T) {
	for _, first := range wrongSets() {
		refuseSet(t, first.want, first)
		for _, second := range wrongSets() {
			if first.place < second.place {
				refuseSet(t, first.want, first, second)
			}
		}
	}
}

// The methods of a nil office return ErrArg or nothing.
func TestNilOffice(t *testing.T) {
	var o *Office
	for _, line := range []string{"at 1", "", "bad"} {
		if e := o.Do(line); e != api.ErrArg {
			t.Errorf("Do of %q: %v", line, e)
		}
	}
	if o.Now() != 0 || len(o.Dishes()) != 0 || len(o.Eaters()) != 0 || len(o.Facts()) != 0 || o.Book() != "" || o.Audit() {
		t.Error("a nil office has something")
	}
	if s, e := o.Meal(0); s != "" || e != api.ErrArg {
		t.Errorf("Meal: %q, %v", s, e)
	}
	if n, e := o.Portions(0); n != 0 || e != api.ErrArg {
		t.Errorf("Portions: %d, %v", n, e)
	}
	if a, b, c, d, e := o.Served(0); a != 0 || b != 0 || c != 0 || d != 0 || e != api.ErrArg {
		t.Errorf("Served: %d, %d, %d, %d, %v", a, b, c, d, e)
	}
	if l, e := o.Label("soup"); len(l) != 0 || e != api.ErrArg {
		t.Errorf("Label: %v, %v", l, e)
	}
	if n, e := o.Due(0); n != 0 || e != api.ErrArg {
		t.Errorf("Due: %d, %v", n, e)
	}
}

// An office that New did not make has no term: nothing in it panics, and no book makes it.
func TestOfficeOfNothing(t *testing.T) {
	o := new(Office)
	for _, line := range []string{"at 1", "dish soup 0", "child 1", "child 2 0", "order 1 0 5", "cancel 1 0 5", "free 1 0 5", "cook 0 1", "eat 0 1", "bad"} {
		o.Do(line)
	}
	stateOf(o)
	if o.Audit() {
		t.Error("Audit of an office of nothing")
	}
}

// R5: an office keeps nothing of the memory of its arguments and gives nothing of its own.
func TestMemory(t *testing.T) {
	lines := []string{"dish soup 1", "dish pie 3", "child 8 0 1", "child 3", "order 3 0 9", "free 3 1 2", "cook 0 4", "eat 0 3"}
	a, b, c := threeWeeks(), threeMenus(), fourItems()
	o, e := New(a, b, c)
	if e != api.OK {
		t.Fatal(e)
	}
	accept(t, o, lines...)
	want := stateOf(o)
	a.Rest[0], a.Closed[0], a.Closed[1] = 0, 1, 3
	c.Items[1].Has[0], c.Items[2].Has[0], c.Items[3].Parts[0], c.Items[3].Parts[1], c.Rules[0].If[0], c.Rules[0].Then = 2, 3, 0, 0, 2, 1
	c.Items[0], c.Rules[0] = api.Item{Has: []int{0}}, api.Rule{}
	dishes, eaters, facts := o.Dishes(), o.Eaters(), o.Facts()
	label, _ := o.Label("pie")
	dishes[0], facts[0], label[0] = Dish{}, api.Fact{}, 9
	eaters[1].Avoid[0], eaters[1].Avoid[1] = 3, 3
	eaters[0].Number = 7
	for _, l := range [][]int{label[:cap(label)], eaters[1].Avoid[:cap(eaters[1].Avoid)]} {
		clear(l)
	}
	clear(dishes[:cap(dishes)])
	clear(facts[:cap(facts)])
	clear(eaters[:cap(eaters)])
	if got := stateOf(o); !reflect.DeepEqual(got, want) {
		t.Errorf("changed from outside: %v, want %v", got, want)
	}
	refuse(t, o, api.ErrHarm, "order 8 0 1", "order 8 1 2")
	if !o.Audit() {
		t.Error("Audit after changes from outside")
	}
}

// R5: no two lists of a result share memory, and the arguments stay as they are.
func TestArgumentsStay(t *testing.T) {
	a, b, c := threeWeeks(), threeMenus(), fourItems()
	orders := []string{"child 1 0 1", "child 2 0 1", "bad", "dish soup 3"}
	if _, _, e := Run(a, b, c, orders); e != api.OK {
		t.Fatal(e)
	}
	o, _, e := Replay(a, b, c, "child 1 0 1\nchild 2 0 1\ndish soup 3\n")
	if e != api.OK {
		t.Fatal(e)
	}
	if !reflect.DeepEqual(a, threeWeeks()) || b != threeMenus() || !reflect.DeepEqual(c, fourItems()) || !slices.Equal(orders, []string{"child 1 0 1", "child 2 0 1", "bad", "dish soup 3"}) {
		t.Errorf("arguments were changed: %v, %v, %v, %q", a, b, c, orders)
	}
	l := o.Eaters()
	clear(append(l[0].Avoid, 9)[:2])
	if !slices.Equal(l[1].Avoid, []int{0, 1}) {
		t.Errorf("lists share memory: %v", l)
	}
}
