package order

import (
	"math"
	"reflect"
	"slices"
	"testing"

	"canteen/api"
)

// args are arguments for any function of the package.
type args struct {
	l                    []api.Fact
	f                    api.Fact
	r                    []api.Right
	prices               []int
	at, before, cut      int
	child, day, from, to int
	meal                 int
}

// good are arguments that no function refuses.
func good() args {
	l := append(example(), api.Fact{At: 20, Child: 1, From: 2, To: 4, Meal: 3}, api.Fact{At: 30, Child: 0, From: 1, To: 2, Meal: 1})
	r := []api.Right{{Child: 1, From: 3, To: 9}, {Child: 2, From: 0, To: 3}, {Child: 1, From: 20, To: 21}}
	return args{l, api.Fact{At: 30, Child: 2, From: 1, To: 3, Meal: 4}, r, somePrices(), 25, 15, 100, 1, 2, 1, 5, 2}
}

// call is a call of a function with some of the arguments, and the letters of those it has: l, r, c (child), d (day), s (stretch), m (meal), p (prices and cut).
type call struct {
	name, has string
	do        func(a args) ([]any, api.Errno)
}

// callsOfFacts are calls of the functions of tables; the results of each stand in a list.
func callsOfFacts() []call {
	return []call{
		{"Validate", "l", func(a args) ([]any, api.Errno) { return nil, Validate(a.l) }},
		{"Add", "l", func(a args) ([]any, api.Errno) { x, e := Add(a.l, a.f); return []any{x}, e }},
		{"Known", "lcd", func(a args) ([]any, api.Errno) { x, e := Known(a.l, a.at, a.child, a.day); return []any{x}, e }},
		{"Reason", "lcd", func(a args) ([]any, api.Errno) {
			x, is, e := Reason(a.l, a.at, a.child, a.day)
			return []any{x, is}, e
		}},
		{"Spans", "lc", func(a args) ([]any, api.Errno) { x, e := Spans(a.l, a.at, a.child); return []any{x}, e }},
		{"Children", "ldm", func(a args) ([]any, api.Errno) { x, e := Children(a.l, a.at, a.day, a.meal); return []any{x}, e }},
		{"Count", "lsm", func(a args) ([]any, api.Errno) {
			x, e := Count(a.l, a.at, a.from, a.to, a.meal)
			return []any{x}, e
		}},
		{"Changed", "lc", func(a args) ([]any, api.Errno) {
			x, e := Changed(a.l, a.before, a.at, a.child)
			return []any{x}, e
		}},
		{"History", "lcd", func(a args) ([]any, api.Errno) { x, e := History(a.l, a.child, a.day); return []any{x}, e }},
		{"Until", "l", func(a args) ([]any, api.Errno) { x, e := Until(a.l, a.at); return []any{x}, e }},
		{"Compact", "l", func(a args) ([]any, api.Errno) { x, e := Compact(a.l, a.at); return []any{x}, e }},
		{"Needless", "l", func(a args) ([]any, api.Errno) { x, e := Needless(a.l); return []any{x}, e }},
	}
}

// calls are calls of all functions.
func calls() []call {
	return append(callsOfFacts(),
		call{"ValidateRights", "r", func(a args) ([]any, api.Errno) { return nil, ValidateRights(a.r) }},
		call{"Free", "rcd", func(a args) ([]any, api.Errno) { x, e := Free(a.r, a.child, a.day); return []any{x}, e }},
		call{"Rights", "rc", func(a args) ([]any, api.Errno) { x, e := Rights(a.r, a.child); return []any{x}, e }},
		call{"Pay", "lrpcd", func(a args) ([]any, api.Errno) {
			x, e := Pay(a.l, a.r, a.prices, a.cut, a.child, a.day)
			return []any{x}, e
		}},
		call{"Bill", "lrpcs", func(a args) ([]any, api.Errno) {
			x, e := Bill(a.l, a.r, a.prices, a.cut, a.child, a.from, a.to)
			return []any{x}, e
		}})
}

// wrong is an argument that functions refuse, and the error for it.
type wrong struct {
	letter rune
	set    func(a *args)
	want   api.Errno
}

// wrongs are wrong arguments of all kinds, in the order in which they are examined.
func wrongs() []wrong {
	l := []wrong{
		{'l', func(a *args) { a.l = make([]api.Fact, api.MaxFacts+1) }, api.ErrLarge},
		{'l', func(a *args) { a.l = []api.Fact{{At: 9, To: 1}, {At: 8, To: 1}} }, api.ErrOrder},
		{'r', func(a *args) { a.r = make([]api.Right, api.MaxFacts+1) }, api.ErrLarge},
		{'p', func(a *args) { a.prices = a.prices[:8] }, api.ErrArg},
		{'p', func(a *args) { a.prices = append(a.prices, 1) }, api.ErrArg},
		{'p', func(a *args) { a.prices = nil }, api.ErrArg},
		{'p', func(a *args) { a.prices[0] = -1 }, api.ErrArg},
		{'p', func(a *args) { a.prices[8] = api.MaxPrice + 1 }, api.ErrArg},
		{'p', func(a *args) { a.cut = 10001 }, api.ErrArg},
		{'s', func(a *args) { a.from, a.to = 3, 2 }, api.ErrArg},
		{'s', func(a *args) { a.to = api.MaxDay + 1 }, api.ErrArg},
		{'s', func(a *args) { a.from, a.to = api.MaxDay+1, api.MaxDay+1 }, api.ErrArg},
		{'c', func(a *args) { a.child = api.MaxChild + 1 }, api.ErrArg},
		{'d', func(a *args) { a.day = api.MaxDay }, api.ErrArg},
		{'m', func(a *args) { a.meal = api.MaxMeal + 1 }, api.ErrArg},
	}
	for _, f := range wrongFacts() {
		l = append(l, wrong{'l', func(a *args) { a.l = []api.Fact{f} }, api.ErrArg})
	}
	for _, r := range wrongRights() {
		l = append(l, wrong{'r', func(a *args) { a.r = []api.Right{r} }, api.ErrArg})
	}
	for _, x := range []int{-1, math.MinInt, math.MaxInt} {
		l = append(l,
			wrong{'p', func(a *args) { a.cut = x }, api.ErrArg},
			wrong{'c', func(a *args) { a.child = x }, api.ErrArg},
			wrong{'d', func(a *args) { a.day = x }, api.ErrArg},
			wrong{'m', func(a *args) { a.meal = x }, api.ErrArg},
			wrong{'s', func(a *args) { a.from = x }, api.ErrArg},
			wrong{'s', func(a *args) { a.to = x }, api.ErrArg})
	}
	return l
}

// refuses reports an error if a call does not return the error and zero values.
func refuses(t *testing.T, c call, a args, want api.Errno) {
	t.Helper()
	results, e := c.do(a)
	if e != want {
		t.Errorf("%s with %v: %v, want %v", c.name, a, e, want)
	}
	for _, x := range results {
		if v := reflect.ValueOf(x); !v.IsZero() && !(v.Kind() == reflect.Slice && v.Len() == 0) {
			t.Errorf("%s with %v: %v beside an error", c.name, a, x)
		}
	}
}

// P5.1, P5.5 and P5.6: each function refuses each wrong argument that it has.
func TestRefusals(t *testing.T) {
	for _, c := range calls() {
		if _, e := c.do(good()); e != api.OK {
			t.Errorf("%s: %v", c.name, e)
		}
		n := 0
		for _, w := range wrongs() {
			if slices.Contains([]rune(c.has), w.letter) {
				a := good()
				w.set(&a)
				refuses(t, c, a, w.want)
				n++
			}
		}
		if n < 3 {
			t.Errorf("%s was called only %d times", c.name, n)
		}
	}
}

// P5.1, P5.5 and P5.6: the errors of the facts come first, then those of the rights, then the others.
func TestOrderOfErrors(t *testing.T) {
	for _, c := range calls() {
		for _, first := range wrongs() {
			for _, second := range wrongs() {
				both := slices.Contains([]rune(c.has), first.letter) && slices.Contains([]rune(c.has), second.letter)
				if !both || first.letter == second.letter || first.letter != 'l' && (first.letter != 'r' || second.letter == 'l') {
					continue
				}
				a := good()
				first.set(&a)
				second.set(&a)
				refuses(t, c, a, first.want)
			}
		}
	}
}

// P5.1 and P5.6: the ends of what is allowed are accepted.
func TestEndsAreAccepted(t *testing.T) {
	for _, c := range calls() {
		for _, set := range []func(a *args){
			func(a *args) { a.child, a.day, a.meal, a.from, a.to, a.cut = 0, 0, 0, 0, 0, 0 },
			func(a *args) {
				a.child, a.day, a.meal, a.from, a.to, a.cut = api.MaxChild, api.MaxDay-1, api.MaxMeal, api.MaxDay, api.MaxDay, 10000
			},
			func(a *args) { a.at, a.before = math.MinInt, math.MinInt },
			func(a *args) { a.at, a.before = math.MaxInt, math.MaxInt },
			func(a *args) { a.l, a.r = nil, nil },
			func(a *args) { a.l, a.r = []api.Fact{}, []api.Right{} },
			func(a *args) { a.prices[0], a.prices[8] = 0, api.MaxPrice },
		} {
			a := good()
			set(&a)
			if _, e := c.do(a); e != api.OK {
				t.Errorf("%s with %v: %v", c.name, a, e)
			}
		}
	}
}

// spoil writes into all memory of the slices of results, also that behind their ends.
func spoil(results []any) {
	for _, x := range results {
		v := reflect.ValueOf(x)
		if v.Kind() != reflect.Slice {
			continue
		}
		v = v.Slice(0, v.Cap())
		for i := range v.Len() {
			v.Index(i).SetZero()
		}
	}
}

// P5.1 to P5.6 with R5 and R11: arguments stay as they are, results are memory of their own, equal calls are equal.
func TestMemory(t *testing.T) {
	for _, c := range calls() {
		a := good()
		first, e := c.do(a)
		second, f := c.do(a)
		if e != f || !reflect.DeepEqual(first, second) {
			t.Errorf("%s twice: %v, %v and %v, %v", c.name, first, e, second, f)
		}
		spoil(first)
		third, g := c.do(a)
		if e != g || !reflect.DeepEqual(second, third) {
			t.Errorf("%s after its result was changed: %v, %v, want %v, %v", c.name, third, g, second, e)
		}
		if !reflect.DeepEqual(a, good()) {
			t.Errorf("%s changed its arguments: %v", c.name, a)
		}
	}
}
