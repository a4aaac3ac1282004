package dish

import (
	"math"
	"math/rand"
	"reflect"
	"slices"
	"testing"

	"canteen/api"
)

// upTo returns the set of the numbers from 0 to n - 1.
func upTo(n int) []int {
	var l []int
	for x := range n {
		l = append(l, x)
	}
	return l
}

// bread is a book of ordinary size: flour 0, oil 1, dough 2 (of 0), butter 3, loaf 4 (of 1 and 2), toast 5 (of 3 and 4), water 6.
func bread() api.Book {
	return api.Book{
		Props: 6,
		Items: []api.Item{{Has: []int{0}}, {Has: []int{1}}, {Parts: []int{0}}, {Has: []int{3}}, {Parts: []int{1, 2}, Has: []int{4}}, {Parts: []int{3, 4}}, {}},
		Rules: []api.Rule{{If: []int{2, 3}, Then: 5}, {If: []int{0, 1}, Then: 2}},
	}
}

// someSet returns a set of numbers from 0 to end - 1, of at most most of them.
func someSet(r *rand.Rand, end, most int) []int {
	l := r.Perm(end)
	l = l[:r.Intn(min(end, most)+1)]
	slices.Sort(l)
	return l
}

// someBook returns a valid book of at most so many properties, items and rules.
func someBook(r *rand.Rand, props, items, rules int) api.Book {
	b := api.Book{Props: r.Intn(props + 1)}
	for i := range r.Intn(items + 1) {
		b.Items = append(b.Items, api.Item{Parts: someSet(r, i, 3), Has: someSet(r, b.Props, 1)})
	}
	if b.Props == 0 {
		return b
	}
	for range r.Intn(rules + 1) {
		b.Rules = append(b.Rules, api.Rule{If: someSet(r, b.Props, 3), Then: r.Intn(b.Props)})
	}
	return b
}

// sameBook reports whether books are equal; nil and empty slices are.
func sameBook(a, b api.Book) bool {
	return a.Props == b.Props &&
		slices.EqualFunc(a.Items, b.Items, func(x, y api.Item) bool {
			return slices.Equal(x.Parts, y.Parts) && slices.Equal(x.Has, y.Has)
		}) &&
		slices.EqualFunc(a.Rules, b.Rules, func(x, y api.Rule) bool {
			return slices.Equal(x.If, y.If) && x.Then == y.Then
		})
}

// listsOf returns all lists of numbers in a book.
func listsOf(b api.Book) [][]int {
	var l [][]int
	for _, item := range b.Items {
		l = append(l, item.Parts, item.Has)
	}
	for _, r := range b.Rules {
		l = append(l, r.If)
	}
	return l
}

// spoil writes into all memory of a book, also that behind the ends of its slices.
func spoil(b api.Book) {
	for _, l := range listsOf(b) {
		l = l[:cap(l)]
		for i := range l {
			l[i] = -7
		}
	}
	clear(b.Items[:cap(b.Items)])
	clear(b.Rules[:cap(b.Rules)])
}

// isOwnMemory reports whether no slice of a book shares memory with another one of it, by writing behind and into each.
func isOwnMemory(b api.Book) bool {
	before := copyOf(b)
	for _, l := range listsOf(b) {
		_ = append(l, -7)
		if !sameBook(b, before) {
			return false
		}
		for i := range l {
			l[i] = -l[i] - 100
		}
		changed := copyOf(b)
		for i := range l {
			l[i] = -l[i] - 100
		}
		if len(l) > 0 && (differences(changed, before) != 1 || !sameBook(b, before)) {
			return false
		}
	}
	return true
}

// differences returns in how many lists two books of the same shape differ.
func differences(a, b api.Book) int {
	n := 0
	x, y := listsOf(a), listsOf(b)
	for i := range x {
		if !slices.Equal(x[i], y[i]) {
			n++
		}
	}
	return n
}

// P2.1

// ofItems and ofRules are books of so many properties, with items or rules.
func ofItems(props int, items ...api.Item) api.Book { return api.Book{Props: props, Items: items} }

func ofRules(props int, rules ...api.Rule) api.Book { return api.Book{Props: props, Rules: rules} }

func TestValidate(t *testing.T) {
	simple := make([]api.Item, 7)
	full := ofItems(10, make([]api.Item, 20)...)
	full.Items[19] = api.Item{Parts: []int{0, 3, 7, 8, 17, 18}, Has: upTo(10)}
	full.Rules = make([]api.Rule, 16)
	full.Rules[15] = api.Rule{If: upTo(10), Then: 9}
	for i, c := range []struct {
		book api.Book
		want api.Errno
	}{
		{api.Book{}, api.OK},
		{api.Book{Items: []api.Item{}, Rules: []api.Rule{}}, api.OK},
		{api.Book{Props: 10}, api.OK},
		{ofItems(0, simple...), api.OK},
		{bread(), api.OK},
		{full, api.OK},
		{ofItems(1, api.Item{Parts: []int{}, Has: []int{0}}), api.OK},
		{ofRules(1, api.Rule{If: []int{0}, Then: 0}), api.OK},
		{ofRules(3, api.Rule{If: []int{}, Then: 2}), api.OK},
		{api.Book{Props: -1}, api.ErrArg},
		{api.Book{Props: 11}, api.ErrArg},
		{api.Book{Props: math.MaxInt}, api.ErrArg},
		{api.Book{Props: math.MinInt}, api.ErrArg},
		{ofItems(0, make([]api.Item, 21)...), api.ErrLarge},
		{ofRules(1, make([]api.Rule, 17)...), api.ErrLarge},
		{ofItems(9, api.Item{Parts: make([]int, 7)}), api.ErrLarge},
		{ofItems(9, append(simple, api.Item{Parts: upTo(7)})...), api.ErrLarge},
		{ofItems(9, append(simple, api.Item{Parts: upTo(6)})...), api.OK},
		{ofItems(9, api.Item{Parts: []int{0}}), api.ErrArg},
		{ofItems(9, api.Item{Parts: []int{-1}}), api.ErrArg},
		{ofItems(9, api.Item{}, api.Item{Parts: []int{1}}), api.ErrArg},
		{ofItems(9, api.Item{}, api.Item{Parts: []int{2}}, api.Item{}), api.ErrArg},
		{ofItems(9, append(simple, api.Item{Parts: []int{1, 1}})...), api.ErrArg},
		{ofItems(9, append(simple, api.Item{Parts: []int{2, 1}})...), api.ErrArg},
		{ofItems(9, append(simple, api.Item{Parts: []int{0, math.MaxInt}})...), api.ErrArg},
		{ofItems(9, append(simple, api.Item{Parts: []int{math.MinInt, 0}})...), api.ErrArg},
		{ofItems(9, api.Item{Has: []int{9}}), api.ErrArg},
		{ofItems(9, api.Item{Has: []int{-1}}), api.ErrArg},
		{ofItems(9, api.Item{Has: []int{3, 3}}), api.ErrArg},
		{ofItems(9, api.Item{Has: []int{3, 2}}), api.ErrArg},
		{ofItems(0, api.Item{Has: []int{0}}), api.ErrArg},
		{ofItems(9, append(simple, api.Item{Has: make([]int, 11)})...), api.ErrArg},
		{ofRules(0, api.Rule{}), api.ErrArg},
		{ofRules(9, api.Rule{Then: 9}), api.ErrArg},
		{ofRules(9, api.Rule{Then: -1}), api.ErrArg},
		{ofRules(9, api.Rule{Then: math.MinInt}), api.ErrArg},
		{ofRules(9, api.Rule{If: []int{9}}), api.ErrArg},
		{ofRules(9, api.Rule{If: []int{-1}}), api.ErrArg},
		{ofRules(9, api.Rule{If: []int{4, 4}}), api.ErrArg},
		{ofRules(9, api.Rule{If: []int{4, 3}}), api.ErrArg},
		{ofRules(9, api.Rule{}, api.Rule{If: []int{4, 3}}), api.ErrArg},
	} {
		if e := Validate(c.book); e != c.want {
			t.Errorf("%d: %v, want %v", i, e, c.want)
		}
	}
}

// Of several errors the one that the chapter names first is returned; those of items are examined one by one.
func TestValidateOrder(t *testing.T) {
	large, wrong := api.Item{Parts: make([]int, 7)}, api.Item{Has: []int{10}}
	for i, c := range []struct {
		book api.Book
		want api.Errno
	}{
		{ofItems(11, make([]api.Item, 21)...), api.ErrArg},
		{ofRules(-1, make([]api.Rule, 17)...), api.ErrArg},
		{ofItems(10, append([]api.Item{wrong}, make([]api.Item, 20)...)...), api.ErrLarge},
		{api.Book{Props: 10, Items: []api.Item{wrong}, Rules: make([]api.Rule, 17)}, api.ErrLarge},
		{ofItems(10, large, wrong), api.ErrLarge},
		{ofItems(10, wrong, large), api.ErrArg},
		{ofItems(10, api.Item{Parts: make([]int, 7), Has: []int{10}}), api.ErrLarge},
		{api.Book{Props: 10, Items: []api.Item{large}, Rules: []api.Rule{{Then: 10}}}, api.ErrLarge},
	} {
		if e := Validate(c.book); e != c.want {
			t.Errorf("%d: %v, want %v", i, e, c.want)
		}
	}
}

// call is a call of a function of the package with a book: its results but the error, and the error.
type call struct {
	name   string
	values func(b api.Book) ([]any, api.Errno)
}

// calls returns calls whose arguments other than the book are wrong too, where there are any.
func calls() []call {
	return []call{
		{"Contains", func(b api.Book) ([]any, api.Errno) { v, e := Contains(b, -1); return []any{v}, e }},
		{"Closure", func(b api.Book) ([]any, api.Errno) { v, e := Closure(b, []int{-1}); return []any{v}, e }},
		{"Label", func(b api.Book) ([]any, api.Errno) { v, e := Label(b, -1); return []any{v}, e }},
		{"CheckProof", func(b api.Book) ([]any, api.Errno) { return nil, CheckProof(b, -1, -1, nil) }},
		{"Explain", func(b api.Book) ([]any, api.Errno) { v, w, e := Explain(b, -1, 0); return []any{v, w}, e }},
		{"Shortest", func(b api.Book) ([]any, api.Errno) { v, w, e := Shortest(b, -1, 0); return []any{v, w}, e }},
		{"Follows", func(b api.Book) ([]any, api.Errno) {
			v, e := Follows(b, api.Rule{Then: -1})
			return []any{v}, e
		}},
		{"Exchange", func(b api.Book) ([]any, api.Errno) {
			v, e := Exchange(b, []api.Swap{{Item: -1}})
			return []any{v}, e
		}},
		{"Fewest", func(b api.Book) ([]any, api.Errno) {
			v, w, e := Fewest(b, -1, nil, nil)
			return []any{v, w}, e
		}},
		{"Reduce", func(b api.Book) ([]any, api.Errno) { v, e := Reduce(b); return []any{v}, e }},
		{"Closed", func(b api.Book) ([]any, api.Errno) { v, e := Closed(b); return []any{v}, e }},
	}
}

// Errors of the book come before the function's own, and all with zero values.
func TestOrderOfErrors(t *testing.T) {
	for _, c := range calls() {
		own := api.ErrNone
		switch c.name {
		case "Closure", "Follows":
			own = api.ErrArg
		case "Reduce", "Closed":
			own = api.OK
		}
		for _, k := range []struct {
			book api.Book
			want api.Errno
		}{
			{api.Book{Props: 11}, api.ErrArg},
			{ofItems(2, make([]api.Item, 21)...), api.ErrLarge},
			{ofRules(2, api.Rule{Then: 2}), api.ErrArg},
			{bread(), own},
		} {
			values, e := c.values(k.book)
			if e != k.want {
				t.Errorf("%s: %v, want %v", c.name, e, k.want)
			}
			for _, v := range values {
				if e != api.OK && !reflect.ValueOf(v).IsZero() {
					t.Errorf("%s: %v with an error", c.name, v)
				}
			}
		}
	}
}

// No call changes a book, and equal calls have equal results.
func TestBookStays(t *testing.T) {
	for _, c := range calls() {
		b := bread()
		first, e := c.values(b)
		again, f := c.values(b)
		if e != f || !reflect.DeepEqual(first, again) || !sameBook(b, bread()) {
			t.Error(c.name, first, again, e, f)
		}
	}
}

// P2.2

// itemsIn are the items that an item contains, as the chapter says it: itself, and what its parts contain.
func itemsIn(b api.Book, item int) map[int]bool {
	in := map[int]bool{item: true}
	for _, p := range b.Items[item].Parts {
		for x := range itemsIn(b, p) {
			in[x] = true
		}
	}
	return in
}

// smallestClosed returns the properties that are in all closed sets that contain props.
func smallestClosed(b api.Book, props []int) []int {
	var in []int
	for p := range b.Props {
		always := true
		for m := range 1 << b.Props {
			if isClosed(b, m) && holds(m, props) && !holds(m, []int{p}) {
				always = false
			}
		}
		if always {
			in = append(in, p)
		}
	}
	return in
}

// isClosed reports whether no rule gives a further property for a set, written as a number.
func isClosed(b api.Book, m int) bool {
	for _, r := range b.Rules {
		if holds(m, r.If) && !holds(m, []int{r.Then}) {
			return false
		}
	}
	return true
}

// holds reports whether a set, written as a number, contains all of l.
func holds(m int, l []int) bool {
	for _, x := range l {
		if m/(1<<x)%2 == 0 {
			return false
		}
	}
	return true
}

func TestContains(t *testing.T) {
	for item, want := range [][]int{{0}, {1}, {0, 2}, {3}, {0, 1, 2, 4}, {0, 1, 2, 3, 4, 5}, {6}} {
		if l, e := Contains(bread(), item); !slices.Equal(l, want) || e != api.OK {
			t.Error(item, l, e)
		}
	}
	for _, item := range []int{-1, 7, math.MaxInt, math.MinInt} {
		if l, e := Contains(bread(), item); l != nil || e != api.ErrNone {
			t.Error(item, l, e)
		}
		if l, e := Label(bread(), item); l != nil || e != api.ErrNone {
			t.Error(item, l, e)
		}
	}
	if l, e := Contains(api.Book{}, 0); l != nil || e != api.ErrNone {
		t.Error(l, e)
	}
}

func TestLabel(t *testing.T) {
	for item, want := range [][]int{{0}, {1}, {0}, {3}, {0, 1, 2, 4}, {0, 1, 2, 3, 4, 5}, {}} {
		if l, e := Label(bread(), item); !slices.Equal(l, want) || e != api.OK {
			t.Error(item, l, e)
		}
	}
	// The example of the chapter.
	b := api.Book{Props: 3, Items: []api.Item{{Has: []int{0}}, {Has: []int{1}}, {Parts: []int{0, 1}}}, Rules: []api.Rule{{If: []int{0, 1}, Then: 2}}}
	if l, e := Label(b, 2); !slices.Equal(l, upTo(3)) || e != api.OK {
		t.Error(l, e)
	}
}

func TestClosure(t *testing.T) {
	for _, c := range []struct {
		book  api.Book
		props []int
		want  []int
	}{
		{bread(), nil, nil},
		{bread(), []int{0, 1, 3}, []int{0, 1, 2, 3, 5}},
		{bread(), []int{1, 3, 4}, []int{1, 3, 4}},
		{bread(), upTo(6), upTo(6)},
		{ofRules(3, api.Rule{Then: 1}), nil, []int{1}},
		{ofRules(3, api.Rule{If: []int{1}, Then: 2}, api.Rule{Then: 1}), []int{}, []int{1, 2}},
		{ofRules(10, api.Rule{If: upTo(9), Then: 9}), upTo(9), upTo(10)},
		{ofRules(10, api.Rule{If: upTo(9), Then: 9}), upTo(8), upTo(8)},
		{api.Book{}, nil, nil},
	} {
		if l, e := Closure(c.book, c.props); !slices.Equal(l, c.want) || e != api.OK {
			t.Error(c, l, e)
		}
	}
	for _, props := range [][]int{{6}, {-1}, {1, 1}, {1, 0}, {0, 6}, {math.MaxInt}, {math.MinInt}, make([]int, 99)} {
		if l, e := Closure(bread(), props); l != nil || e != api.ErrArg {
			t.Error(props, l, e)
		}
	}
	if l, e := Closure(api.Book{}, []int{0}); l != nil || e != api.ErrArg {
		t.Error(l, e)
	}
}

// What comes out is new memory: writing into it changes no argument.
func TestClosureMemory(t *testing.T) {
	props := []int{0, 3, 9, 9}
	l, e := Closure(bread(), props[:2])
	if e != api.OK || !slices.Equal(l, []int{0, 3}) {
		t.Fatal(l, e)
	}
	l[0], l[1] = -7, -7
	_ = append(l, -7)
	if !slices.Equal(props, []int{0, 3, 9, 9}) {
		t.Error(props)
	}
}

// Items, closures and labels of many books are what the chapter's sentences say.
func TestManyLabels(t *testing.T) {
	r := rand.New(rand.NewSource(21))
	for range 300 {
		b := someBook(r, 5, 8, 6)
		for item := range b.Items {
			in := itemsIn(b, item)
			var own []int
			for i := range b.Items {
				if in[i] {
					own = append(own, b.Items[i].Has...)
				}
			}
			l, e := Contains(b, item)
			if e != api.OK || len(l) != len(in) || !slices.IsSorted(l) {
				t.Fatal(b, item, l, e)
			}
			for _, i := range l {
				if !in[i] {
					t.Fatal(b, item, l)
				}
			}
			if l, e := Label(b, item); !slices.Equal(l, smallestClosed(b, own)) || e != api.OK {
				t.Fatal(b, item, l, e)
			}
		}
		for m := range 1 << b.Props {
			props := mask(m).numbers()
			if l, e := Closure(b, props); !slices.Equal(l, smallestClosed(b, props)) || e != api.OK {
				t.Fatal(b, props, l, e)
			}
		}
	}
}

// The label of an item contains those of its parts.
func TestLabelOfParts(t *testing.T) {
	r := rand.New(rand.NewSource(22))
	for range 200 {
		b := someBook(r, 10, 20, 16)
		for i, item := range b.Items {
			whole, _ := Label(b, i)
			for _, p := range item.Parts {
				part, e := Label(b, p)
				if e != api.OK || !maskOf(whole).hasAll(part) {
					t.Fatal(b, i, p, whole, part, e)
				}
			}
		}
	}
}

// A chain of the largest book, and one in which everything is a part of what comes later.
func TestLargestBook(t *testing.T) {
	b := api.Book{Props: 10}
	for i := range 20 {
		b.Items = append(b.Items, api.Item{Parts: upTo(i)[max(0, i-6):]})
	}
	b.Items[0].Has = []int{0}
	for i := range 16 {
		// Rules stand against the order in which they are needed.
		b.Rules = append(b.Rules, api.Rule{If: []int{max(0, 8-i)}, Then: max(1, 9-i)})
	}
	for i := range b.Items {
		if l, e := Contains(b, i); !slices.Equal(l, upTo(i+1)) || e != api.OK {
			t.Error(i, l, e)
		}
		if l, e := Label(b, i); !slices.Equal(l, upTo(10)) || e != api.OK {
			t.Error(i, l, e)
		}
	}
}
