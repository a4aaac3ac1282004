package kitchen

import (
	"math"
	"reflect"
	"slices"
	"testing"

	"canteen/api"
)

// args are arguments for any function of the package.
type args struct {
	l                   []api.Batch
	order, due          []int
	heat, air, num, den int
	steps, limit        int
}

// good are arguments that no function refuses.
func good() args {
	return args{
		l:     []api.Batch{{Cook: 3, Pack: 6}, {Cook: 7, Pack: 2}, {Cook: 4, Pack: 7}},
		order: []int{0, 2, 1}, due: []int{9, 17, 15},
		heat: 805, air: 200, num: 9, den: 10, steps: 3, limit: 630,
	}
}

// call is a call of a function with some of the arguments, and the letters of those it has: l (batches), o (an order), n (needs a batch), d (minutes that are due), h (heat, air and a fraction), s (steps), m (a limit).
type call struct {
	name, has string
	do        func(a args) ([]any, api.Errno)
}

// callsOfBatches are calls of the functions of batches; the results of each stand in a list.
func callsOfBatches() []call {
	return []call{
		{"Validate", "l", func(a args) ([]any, api.Errno) { return nil, Validate(a.l) }},
		{"Run", "lo", func(a args) ([]any, api.Errno) { x, e := Run(a.l, a.order); return []any{x}, e }},
		{"Time", "lo", func(a args) ([]any, api.Errno) { x, e := Time(a.l, a.order); return []any{x}, e }},
		{"Critical", "lon", func(a args) ([]any, api.Errno) { x, e := Critical(a.l, a.order); return []any{x}, e }},
		{"Best", "l", func(a args) ([]any, api.Errno) { x, e := Best(a.l); return []any{x}, e }},
		{"Least", "l", func(a args) ([]any, api.Errno) { x, e := Least(a.l); return []any{x}, e }},
		{"Bound", "l", func(a args) ([]any, api.Errno) { x, e := Bound(a.l); return []any{x}, e }},
		{"Sorted", "lo", func(a args) ([]any, api.Errno) { x, e := Sorted(a.l, a.order); return []any{x}, e }},
		{"Late", "lod", func(a args) ([]any, api.Errno) { x, e := Late(a.l, a.order, a.due); return []any{x}, e }},
		{"Idle", "lo", func(a args) ([]any, api.Errno) { x, e := Idle(a.l, a.order); return []any{x}, e }},
		{"Reverse", "l", func(a args) ([]any, api.Errno) { x, e := Reverse(a.l); return []any{x}, e }},
	}
}

// calls are calls of all functions that return an error.
func calls() []call {
	return append(callsOfBatches(),
		call{"Cool", "hs", func(a args) ([]any, api.Errno) {
			x, e := Cool(a.heat, a.air, a.num, a.den, a.steps)
			return []any{x}, e
		}},
		call{"Warm", "hs", func(a args) ([]any, api.Errno) {
			x, e := Warm(a.heat, a.air, a.num, a.den, a.steps)
			return []any{x}, e
		}},
		call{"Steps", "hm", func(a args) ([]any, api.Errno) {
			x, is, e := Steps(a.heat, a.air, a.num, a.den, a.limit)
			return []any{x, is}, e
		}},
		call{"Holds", "hsm", func(a args) ([]any, api.Errno) {
			x, e := Holds(a.heat, a.air, a.num, a.den, a.steps, a.limit)
			return []any{x}, e
		}})
}

// wrongArg is an argument that the functions with a letter refuse, and the error for it.
type wrongArg struct {
	letter rune
	set    func(a *args)
	want   api.Errno
}

// wrongLists are arguments that are refused because of a list.
func wrongLists() []wrongArg {
	l := []wrongArg{
		{'l', func(a *args) { a.l = make([]api.Batch, api.MaxBatches+1) }, api.ErrLarge},
		{'l', func(a *args) { a.l = slices.Repeat([]api.Batch{{Cook: -1, Pack: 1001}}, 9) }, api.ErrLarge},
		{'l', func(a *args) { a.l, a.order = make([]api.Batch, 8), []int{0, 1, 2, 3, 4, 5, 6, 7} }, api.ErrLarge},
		{'n', func(a *args) { a.l, a.order = nil, nil }, api.ErrNone},
		{'n', func(a *args) { a.l, a.order = []api.Batch{}, []int{} }, api.ErrNone},
		{'o', func(a *args) { a.l, a.order, a.due = nil, []int{0}, nil }, api.ErrArg},
		{'o', func(a *args) { a.l, a.order, a.due = nil, []int{-1}, nil }, api.ErrArg},
		{'o', func(a *args) { a.l, a.order, a.due = a.l[:1], []int{1}, a.due[:1] }, api.ErrArg},
		{'o', func(a *args) { a.order = slices.Repeat([]int{0, 1, 2}, 5) }, api.ErrArg},
		{'o', func(a *args) { a.order = []int{0, 1, 2, 3, 4, 5, 6, 7, 8, 9} }, api.ErrArg},
		{'o', func(a *args) { a.order = []int{9, 8, 7, 6, 5, 4, 3, 2, 1, 0} }, api.ErrArg},
		{'d', func(a *args) { a.l, a.order, a.due = nil, nil, []int{0} }, api.ErrArg},
	}
	for _, x := range []int{-1, api.MaxMinutes + 1, math.MinInt, math.MaxInt} {
		for i := range 3 {
			l = append(l,
				wrongArg{'l', func(a *args) { a.l[i].Cook = x }, api.ErrArg},
				wrongArg{'l', func(a *args) { a.l[i].Pack = x }, api.ErrArg},
				wrongArg{'l', func(a *args) { a.l = append(slices.Repeat(a.l, 2), api.Batch{Pack: x}) }, api.ErrArg})
		}
	}
	for _, order := range [][]int{nil, {}, {0}, {0, 1}, {2, 1}, {0, 0, 1}, {0, 1, 1}, {1, 0, 1}, {2, 2, 2}, {0, 1, 3}, {3, 1, 0}, {1, 2, 3}, {-1, 0, 1}, {0, 1, -1}, {0, 1, 2, 3}, {0, 1, 2, 0}, {0, 1, 2, -1}, {0, 1, 7}, {0, 1, math.MaxInt}, {math.MinInt, 1, 2}} {
		l = append(l, wrongArg{'o', func(a *args) { a.order = order }, api.ErrArg})
	}
	for _, due := range [][]int{nil, {}, {9}, {9, 17}, {9, 17, 15, 0}, {9, 17, 15, 9, 17, 15}} {
		l = append(l, wrongArg{'d', func(a *args) { a.due = due }, api.ErrArg})
	}
	return l
}

// wrongNumbers are arguments that are refused because of a number.
func wrongNumbers() []wrongArg {
	l := []wrongArg{
		{'h', func(a *args) { a.num = 11 }, api.ErrArg},
		{'h', func(a *args) { a.num, a.den = 101, 100 }, api.ErrArg},
		{'h', func(a *args) { a.num, a.den = 0, 0 }, api.ErrArg},
		{'h', func(a *args) { a.num, a.den = 1, 0 }, api.ErrArg},
		{'h', func(a *args) { a.num, a.den = 0, -1 }, api.ErrArg},
		{'h', func(a *args) { a.num, a.den = -9, -10 }, api.ErrArg},
		{'h', func(a *args) { a.den = 101 }, api.ErrArg},
		{'h', func(a *args) { a.num, a.den = 101, 101 }, api.ErrArg},
		{'h', func(a *args) { a.num = -1 }, api.ErrArg},
		{'s', func(a *args) { a.steps = -1 }, api.ErrArg},
		{'s', func(a *args) { a.steps = 1001 }, api.ErrArg},
	}
	for _, x := range []int{math.MinInt, -api.MaxHeat - 1, api.MaxHeat + 1, math.MaxInt} {
		l = append(l,
			wrongArg{'h', func(a *args) { a.heat = x }, api.ErrArg},
			wrongArg{'h', func(a *args) { a.air = x }, api.ErrArg},
			wrongArg{'h', func(a *args) { a.heat, a.air = x, x }, api.ErrArg},
			wrongArg{'h', func(a *args) { a.num = x }, api.ErrArg},
			wrongArg{'h', func(a *args) { a.den = x }, api.ErrArg},
			wrongArg{'h', func(a *args) { a.num, a.den = x, x }, api.ErrArg},
			wrongArg{'s', func(a *args) { a.steps = x }, api.ErrArg},
			wrongArg{'m', func(a *args) { a.limit = x }, api.ErrArg})
	}
	return l
}

// hasLetter reports whether a function has an argument with a letter.
func (c call) hasLetter(letter rune) bool {
	return slices.Contains([]rune(c.has), letter)
}

// refuses reports an error if a call does not return the error and zero values.
func refuses(t *testing.T, c call, a args, want api.Errno) {
	t.Helper()
	results, e := c.do(a)
	if e != want {
		t.Errorf("%s with %v: %v, want %v", c.name, a, e, want)
	}
	for _, x := range results {
		if v := reflect.ValueOf(x); !v.IsZero() && !(v.Kind() == reflect.Slice && v.Len() == 0) {
			t.Errorf("%s with %v: %v beside an error", c.name, a, x)
		}
	}
}

// P7.1 to P7.7: each function refuses each wrong argument that it has.
func TestRefusals(t *testing.T) {
	for _, c := range calls() {
		if _, e := c.do(good()); e != api.OK {
			t.Errorf("%s: %v", c.name, e)
		}
		n := 0
		for _, w := range append(wrongLists(), wrongNumbers()...) {
			if c.hasLetter(w.letter) {
				a := good()
				w.set(&a)
				refuses(t, c, a, w.want)
				n++
			}
		}
		if n < 15 {
			t.Errorf("%s was called only %d times", c.name, n)
		}
	}
}

// P7.1, P7.2 and P7.5 with R1 and R2: the errors of the batches come before those of the order, and these before that of no batches.
func TestOrderOfErrors(t *testing.T) {
	for _, c := range callsOfBatches() {
		for _, order := range [][]int{nil, {5, 5}, {-1}, {0, 1, 2}} {
			a := good()
			a.l, a.order, a.due = make([]api.Batch, 8), order, nil
			refuses(t, c, a, api.ErrLarge)
			a.l[7].Cook = -1
			refuses(t, c, a, api.ErrLarge)
		}
		if c.hasLetter('n') {
			for _, order := range [][]int{{0}, {-1}, {1, 0}} {
				a := good()
				a.l, a.order = nil, order
				refuses(t, c, a, api.ErrArg)
			}
		}
	}
}

// P7.1 to P7.7: the ends of what is allowed are accepted.
func TestEndsAreAccepted(t *testing.T) {
	for _, set := range []func(a *args){
		func(a *args) {
			a.l, a.order, a.due = slices.Repeat([]api.Batch{{Cook: api.MaxMinutes, Pack: api.MaxMinutes}}, 7), []int{6, 5, 4, 3, 2, 1, 0}, make([]int, 7)
			a.heat, a.air, a.num, a.den, a.steps, a.limit = api.MaxHeat, -api.MaxHeat, 100, 100, 1000, api.MaxHeat
		},
		func(a *args) {
			a.l, a.order, a.due = make([]api.Batch, 1), []int{0}, []int{math.MinInt}
			a.heat, a.air, a.num, a.den, a.steps, a.limit = -api.MaxHeat, api.MaxHeat, 0, 1, 0, -api.MaxHeat
		},
		func(a *args) {
			a.due = []int{math.MaxInt, math.MinInt, -1}
			a.num, a.den = 0, 100
		},
		func(a *args) { a.num, a.den = 1, 1 },
		func(a *args) { a.num, a.den = 2, 4 },
	} {
		for _, c := range calls() {
			a := good()
			set(&a)
			if _, e := c.do(a); e != api.OK {
				t.Errorf("%s with %v: %v", c.name, a, e)
			}
		}
	}
}

// P7.1 to P7.5: no batches are batches, with one order.
func TestNoBatches(t *testing.T) {
	for _, c := range callsOfBatches() {
		if c.hasLetter('n') {
			continue
		}
		for _, none := range []args{{}, {l: []api.Batch{}, order: []int{}, due: []int{}}} {
			results, e := c.do(none)
			if e != api.OK {
				t.Errorf("%s: %v", c.name, e)
			}
			for _, x := range results {
				v := reflect.ValueOf(x)
				if want := c.name == "Sorted"; v.Kind() == reflect.Slice && v.Len() > 0 || v.Kind() == reflect.Int && v.Int() != 0 || v.Kind() == reflect.Bool && v.Bool() != want {
					t.Errorf("%s: %v", c.name, x)
				}
			}
		}
	}
}

// spoil writes into all memory of the slices of results, also that behind their ends.
func spoil(results []any) {
	for _, x := range results {
		v := reflect.ValueOf(x)
		if v.Kind() != reflect.Slice {
			continue
		}
		v = v.Slice(0, v.Cap())
		for i := range v.Len() {
			v.Index(i).SetZero()
		}
	}
}

// P7.1 to P7.7 with R5 and R11: arguments stay as they are, results are memory of their own, equal calls are equal.
func TestMemory(t *testing.T) {
	for _, c := range calls() {
		a := good()
		first, e := c.do(a)
		second, f := c.do(a)
		if e != f || !reflect.DeepEqual(first, second) {
			t.Errorf("%s twice: %v, %v and %v, %v", c.name, first, e, second, f)
		}
		spoil(first)
		third, g := c.do(a)
		if e != g || !reflect.DeepEqual(second, third) {
			t.Errorf("%s after its result was changed: %v, %v, want %v, %v", c.name, third, g, second, e)
		}
		if !reflect.DeepEqual(a, good()) {
			t.Errorf("%s changed its arguments: %v", c.name, a)
		}
	}
}
