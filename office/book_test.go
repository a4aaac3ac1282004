package office

import (
	"reflect"
	"slices"
	"strings"
	"sync"
	"testing"

	"canteen/api"
)

// someOrders are orders of all kinds that are accepted, one after another.
func someOrders() []string {
	return []string{"dish soup 0", "child 8 0", "at 10", "order 8 0 5", "dish pie 2", "child 3", "order 3 1 9", "cook 0 3", "at 2000", "cancel 8 3 4", "free 3 4 8", "eat 0 1", "order 8 4 1000", "dish jam 2", "child 0 1 3", "cook 7 1", "eat 7 1", "at 5000"}
}

// bookOf returns the book of orders.
func bookOf(lines []string) string {
	book := ""
	for _, line := range lines {
		book += line + "\n"
	}
	return book
}

// P9.6: Read returns the lines with which a text begins, and the rest.
func TestRead(t *testing.T) {
	long := strings.Repeat("x", api.MaxLine)
	for _, c := range []struct {
		text  string
		lines []string
		rest  string
	}{
		{"", nil, ""},
		{"\n", nil, "\n"},
		{"a", nil, "a"},
		{"a\n", []string{"a"}, ""},
		{"a\nb", []string{"a"}, "b"},
		{"a\n\n", []string{"a"}, "\n"},
		{"a\n\nb\n", []string{"a"}, "\nb\n"},
		{"\na\n", nil, "\na\n"},
		{" \n\r\n\x00\n\xff", []string{" ", "\r", "\x00"}, "\xff"},
		{"a\r\n b \n", []string{"a\r", " b "}, ""},
		{long + "\n", []string{long}, ""},
		{long + "\n" + long + "x\na\n", []string{long}, long + "x\na\n"},
		{long + "x\n", nil, long + "x\n"},
		{long, nil, long},
		{"at 1\nbad\nat 0\n", []string{"at 1", "bad", "at 0"}, ""},
	} {
		if lines, rest := Read(c.text); !slices.Equal(lines, c.lines) || rest != c.rest {
			t.Errorf("Read of %q: %q, %q", c.text, lines, rest)
		}
	}
}

// P9.6: Read returns at most MaxBook lines.
func TestReadManyLines(t *testing.T) {
	for n := api.MaxBook - 2; n <= api.MaxBook+2; n++ {
		lines, rest := Read(strings.Repeat("a\n", n) + "b")
		want := strings.Repeat("a\n", max(n-api.MaxBook, 0)) + "b"
		if len(lines) != min(n, api.MaxBook) || rest != want {
			t.Errorf("Read of %d lines: %d, %q", n, len(lines), rest)
		}
	}
	lines, rest := Read(strings.Repeat(strings.Repeat("x", api.MaxLine)+"\n", api.MaxBook))
	if len(lines) != api.MaxBook || rest != "" {
		t.Errorf("Read of long lines: %d, %q", len(lines), rest)
	}
}

// P9.6 and S7: the first lines of a book make the office as it was after them, which goes on like it.
func TestReplay(t *testing.T) {
	lines := someOrders()
	o := open(t)
	for n := range len(lines) + 1 {
		again, count, e := Replay(threeWeeks(), threeMenus(), fourItems(), bookOf(lines[:n]))
		if e != api.OK || count != n || again == nil {
			t.Fatalf("Replay of %d lines: %d, %v", n, count, e)
		}
		if got, want := stateOf(again), stateOf(o); !reflect.DeepEqual(got, want) {
			t.Errorf("Replay of %d lines: %v, want %v", n, got, want)
		}
		if !again.Audit() || !o.Audit() {
			t.Errorf("Audit after %d lines", n)
		}
		if n < len(lines) {
			accept(t, o, lines[n])
			accept(t, again, lines[n])
		}
	}
}

// P9.6: Replay returns the error of what Read leaves, or that of the first order that is refused, with its number.
func TestErrorsOfReplay(t *testing.T) {
	long := strings.Repeat("x", api.MaxLine+1)
	full := strings.Repeat("at 5\n", api.MaxBook)
	for _, c := range []struct {
		book   string
		number int
		want   api.Errno
	}{
		{"at 1", 0, api.ErrSyntax}, {"\n", 0, api.ErrSyntax}, {"at 1\n\n", 0, api.ErrSyntax}, {"at 2\nat 1\nat 3", 0, api.ErrSyntax}, {"at 1\n" + long + "\n", 0, api.ErrSyntax}, {"bad\nat", 0, api.ErrSyntax},
		{"bad\n", 0, api.ErrSyntax}, {"at 1\nbad\n", 1, api.ErrSyntax}, {"at 1\nat 2 \n", 1, api.ErrSyntax}, {"at 1\nat 2\r\nat 1\n", 1, api.ErrSyntax},
		{"at 1\nat 0\nbad\n", 1, api.ErrOrder}, {"at 1\nat 1\nat 1440001\nat 0\n", 2, api.ErrLarge}, {"dish 1 0\n", 0, api.ErrName}, {"child 1\nchild 1\n", 1, api.ErrTwice},
		{"child 1\norder 1 0 1\norder 2 0 1\n", 2, api.ErrNone}, {"child 1 0\ndish soup 1\ncook 1 1\norder 1 0 1\nat 3\n", 3, api.ErrHarm},
		{"cook 2 0\n", 0, api.ErrClosed}, {"cook 0 1\neat 0 2\n", 1, api.ErrShort}, {"cook 0 1\neat 0 1\neat 0 1\n", 2, api.ErrState}, {"child 100\n", 0, api.ErrArg},
		{full + "at 5\n", 0, api.ErrSyntax}, {full + "x", 0, api.ErrSyntax}, {full[5:] + "at 4\n", api.MaxBook - 1, api.ErrOrder},
	} {
		o, number, e := Replay(threeWeeks(), threeMenus(), fourItems(), c.book)
		if o != nil || number != c.number || e != c.want {
			t.Errorf("Replay of %q: %d, %v; want %d, %v", c.book, number, e, c.number, c.want)
		}
	}
	if o, number, e := Replay(threeWeeks(), threeMenus(), fourItems(), full); o == nil || number != api.MaxBook || e != api.OK || o.Do("at 6") != api.ErrLarge {
		t.Errorf("Replay of a full book: %d, %v", number, e)
	}
}

// P9.6: Run returns the errors of all orders and the book at the end.
func TestRun(t *testing.T) {
	for _, c := range []struct {
		orders []string
		want   []api.Errno
		book   string
	}{
		{nil, nil, ""},
		{[]string{"at 2", "at 1", "child 1", "at 3"}, []api.Errno{api.OK, api.ErrOrder, api.OK, api.OK}, "at 2\nchild 1\nat 3\n"},
		{[]string{"", "at 1\n", "child 100"}, []api.Errno{api.ErrSyntax, api.ErrSyntax, api.ErrArg}, ""},
		{someOrders(), make([]api.Errno, len(someOrders())), bookOf(someOrders())},
	} {
		if l, book, e := Run(threeWeeks(), threeMenus(), fourItems(), c.orders); !slices.Equal(l, c.want) || book != c.book || e != api.OK {
			t.Errorf("Run of %q: %v, %q, %v", c.orders, l, book, e)
		}
	}
	many := slices.Repeat([]string{"at 1", "bad"}, api.MaxBook/2)
	l, book, e := Run(threeWeeks(), threeMenus(), fourItems(), many)
	if e != api.OK || !slices.Equal(l, slices.Repeat([]api.Errno{api.OK, api.ErrSyntax}, api.MaxBook/2)) || book != strings.Repeat("at 1\n", api.MaxBook/2) {
		t.Errorf("Run of many orders: %v, %q, %v", l, book, e)
	}
	if l, book, e := Run(threeWeeks(), threeMenus(), fourItems(), append(many, "bad")); len(l) != 0 || book != "" || e != api.ErrLarge {
		t.Errorf("Run of too many orders: %v, %q, %v", l, book, e)
	}
}

// P9.6: Audit examines all that an office has: if anything of it is spoiled, it is false.
func TestAuditOfSpoiled(t *testing.T) {
	for name, spoil := range map[string]func(o *Office){
		"minute":           func(o *Office) { o.now++ },
		"name of a dish":   func(o *Office) { o.dishes[1].Name = "cake" },
		"item of a dish":   func(o *Office) { o.dishes[1].Item = 0 },
		"dish too many":    func(o *Office) { o.dishes = append(o.dishes, Dish{"cake", 0}) },
		"number of child":  func(o *Office) { o.eaters[0].Number = 1 },
		"what is avoided":  func(o *Office) { o.eaters[2].Avoid[0] = 2 },
		"child too few":    func(o *Office) { o.eaters = o.eaters[1:] },
		"fact too few":     func(o *Office) { o.facts = o.facts[:3] },
		"days of a fact":   func(o *Office) { o.facts[1].To = 5 },
		"needless fact":    func(o *Office) { o.facts = append(o.facts, api.Fact{At: 2000, Child: 50, From: 30, To: 31}) },
		"wrong facts":      func(o *Office) { o.facts[0].At = 3000 },
		"wrong rights":     func(o *Office) { o.rights = append(o.rights, api.Right{Child: 100, From: 30, To: 31}) },
		"right that pays":  func(o *Office) { o.rights[0].To = 9 },
		"portions cooked":  func(o *Office) { o.served[0] = serving{4, 1, true} },
		"portions eaten":   func(o *Office) { o.served[0] = serving{3, 2, true} },
		"eaten not known":  func(o *Office) { o.served[0] = serving{3, 1, false} },
		"another day":      func(o *Office) { o.served[18] = serving{0, 0, true} },
		"line too few":     func(o *Office) { o.orders = o.orders[:3] },
		"order of a line":  func(o *Office) { o.orders[4] = "dish pie 1" },
		"line of no order": func(o *Office) { o.orders[2] = "at 10\nat" },
		"line unfinished":  func(o *Office) { o.orders = append(o.orders, "") },
		"term of no days":  func(o *Office) { o.term.Length = 0 },
	} {
		o := open(t, someOrders()...)
		if !o.Audit() {
			t.Fatal("Audit of an office that is not spoiled")
		}
		spoil(o)
		if o.Audit() {
			t.Errorf("Audit does not see: %s", name)
		}
	}
}

// P9.6: Audit sees a wrong right, also where nothing is owed and the book does not show it.
func TestAuditOfRights(t *testing.T) {
	for _, r := range []api.Right{{Child: 100, From: 0, To: 1}, {Child: 8, From: 1, To: 1}} {
		o := open(t, "child 8")
		o.rights = []api.Right{r}
		if o.Audit() {
			t.Errorf("Audit does not see the right %v", r)
		}
	}
}

// P9.6 and S7: Audit sees that a child is harmed, by another label or by another fact.
func TestAuditOfHarm(t *testing.T) {
	lines := []string{"dish soup 0", "dish pie 1", "child 8 1", "child 9", "order 8 1 2", "order 9 0 5"}
	o := open(t, lines...)
	o.items.Items[1].Has = []int{1}
	if o.Audit() {
		t.Error("Audit does not see the harm")
	}
	o = open(t, "child 8 0", "dish soup 0", "dish pie 1", "order 8 0 1", "cancel 8 1 2", "order 8 3 4")
	if !o.Audit() {
		t.Error("Audit sees harm where there is none")
	}
	o.facts[1].Meal = meal
	if o.Audit() {
		t.Error("Audit does not see the harm of a fact")
	}
}

// Each call takes effect at one moment: orders of several goroutines are written one after another, and what is read is never between two of them.
func TestGoroutines(t *testing.T) {
	o := open(t, "dish soup 0", "child 8", "cook 0 100", "eat 0 7")
	var all sync.WaitGroup
	for worker := range 6 {
		all.Go(func() {
			for n := range 30 {
				if e := o.Do([]string{"at 5", "order 8 0 1", "free 8 30 31", "child 8", "bad", "cancel 8 0 1"}[(worker+n)%6]); e != api.OK && e != api.ErrTwice && e != api.ErrSyntax && e != api.ErrLarge {
					t.Errorf("Do: %v", e)
				}
				readAll(t, o)
			}
		})
	}
	all.Wait()
	if !o.Audit() || len(o.Facts()) != api.MaxFacts {
		t.Errorf("after all goroutines: %d facts", len(o.Facts()))
	}
}

// readAll calls all methods that only read.
func readAll(t *testing.T, o *Office) {
	text := o.Book()
	lines, rest := Read(text)
	if rest != "" || len(lines) < 4 || !strings.HasPrefix(o.Book(), text) {
		t.Errorf("Book: %q", text)
	}
	facts := len(o.Facts())
	if pence, e := o.Due(8); e != api.OK || pence != 0 && pence != 100 || facts > len(o.Facts()) {
		t.Errorf("Due: %d, %v", pence, e)
	}
	if n, e := o.Portions(0); e != api.OK || n > 1 {
		t.Errorf("Portions: %d, %v", n, e)
	}
	name, e := o.Meal(0)
	label, f := o.Label(name)
	cooked, eaten, wasted, missing, g := o.Served(0)
	if name != "soup" || len(label) != 0 || cooked != 100 || eaten != 7 || wasted != 93 || missing != 0 || e != api.OK || f != api.OK || g != api.OK {
		t.Errorf("what was served: %q, %v, %d, %d, %d, %d", name, label, cooked, eaten, wasted, missing)
	}
	if len(o.Dishes()) != 1 || len(o.Eaters()) != 1 || o.Now() != 0 && o.Now() != 5 || !o.Audit() {
		t.Error("what there is")
	}
}

// The error of a refused order says which one it is and why.
func TestRefusal(t *testing.T) {
	o := open(t, "at 1", "at 2")
	if err := o.execute("at 1"); err == nil || err.Error() != "order 2 is refused: error 7" {
		t.Errorf("the error of an order that is refused: %v", err)
	}
	if err := o.execute("at 2"); err != nil {
		t.Errorf("the error of an order: %v", err)
	}
}
