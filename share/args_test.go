package share

import (
	"math"
	"reflect"
	"slices"
	"testing"

	"canteen/api"
)

// args are arguments for any function of the package.
type args struct {
	orders, meals, schools []int
	n, kind, school        int
	divisor                api.Rat
}

// good are arguments that no function refuses.
func good() args {
	return args{[]int{7, 2, 1}, []int{4, 1, 1}, []int{0, 2}, 6, api.Half, 1, api.Rat{Num: 2, Den: 1}}
}

// call is a call of a function with some of the arguments, and which of them it has.
type call struct {
	name                                       string
	hasN, hasMeals, hasKind, hasSome, hasProof bool
	do                                         func(a args) ([]any, api.Errno)
}

// calls are calls of all functions; the results of each stand in a list.
func calls() []call {
	return []call{
		{name: "Validate", do: func(a args) ([]any, api.Errno) { return nil, Validate(a.orders) }},
		{name: "Divide", hasN: true, hasKind: true, do: func(a args) ([]any, api.Errno) {
			l, e := Divide(a.orders, a.n, a.kind)
			return []any{l}, e
		}},
		{name: "Claimer", hasMeals: true, hasKind: true, do: func(a args) ([]any, api.Errno) {
			i, e := Claimer(a.orders, a.meals, a.kind)
			return []any{i}, e
		}},
		{name: "Giver", hasMeals: true, hasKind: true, do: func(a args) ([]any, api.Errno) {
			i, is, e := Giver(a.orders, a.meals, a.kind)
			return []any{i, is}, e
		}},
		{name: "IsFair", hasMeals: true, hasKind: true, do: func(a args) ([]any, api.Errno) {
			is, e := IsFair(a.orders, a.meals, a.kind)
			return []any{is}, e
		}},
		{name: "Check", hasMeals: true, hasKind: true, hasProof: true, do: func(a args) ([]any, api.Errno) {
			return nil, Check(a.orders, a.meals, a.kind, a.divisor)
		}},
		{name: "Divisor", hasMeals: true, hasKind: true, do: func(a args) ([]any, api.Errno) {
			d, is, e := Divisor(a.orders, a.meals, a.kind)
			return []any{d, is}, e
		}},
		{name: "Remainders", hasN: true, do: func(a args) ([]any, api.Errno) {
			l, e := Remainders(a.orders, a.n)
			return []any{l}, e
		}},
		{name: "Loses", hasN: true, do: func(a args) ([]any, api.Errno) {
			l, e := Loses(a.orders, a.n)
			return []any{l}, e
		}},
		{name: "Quota", hasN: true, do: func(a args) ([]any, api.Errno) {
			q, e := Quota(a.orders, a.n, a.school)
			return []any{q}, e
		}},
		{name: "Keeps", hasMeals: true, do: func(a args) ([]any, api.Errno) {
			is, e := Keeps(a.orders, a.meals)
			return []any{is}, e
		}},
		{name: "Some", hasN: true, hasKind: true, hasSome: true, do: func(a args) ([]any, api.Errno) {
			l, e := Some(a.orders, a.schools, a.n, a.kind)
			return []any{l}, e
		}},
		{name: "Best", hasN: true, do: func(a args) ([]any, api.Errno) {
			l, e := Best(a.orders, a.n)
			return []any{l}, e
		}},
		{name: "Order", hasN: true, hasKind: true, do: func(a args) ([]any, api.Errno) {
			l, e := Order(a.orders, a.n, a.kind)
			return []any{l}, e
		}},
		{name: "Error", hasMeals: true, do: func(a args) ([]any, api.Errno) {
			d, e := Error(a.orders, a.meals)
			return []any{d}, e
		}},
	}
}

// refuses reports an error if a call does not return ErrArg and zero values.
func refuses(t *testing.T, c call, a args) {
	t.Helper()
	results, e := c.do(a)
	if e != api.ErrArg {
		t.Errorf("%s with %v: %v, want ErrArg", c.name, a, e)
	}
	for _, x := range results {
		if v := reflect.ValueOf(x); !v.IsZero() && !(v.Kind() == reflect.Slice && v.Len() == 0) {
			t.Errorf("%s with %v: %v beside an error", c.name, a, x)
		}
	}
}

// P4.1 to P4.5: each function refuses each invalid argument, and nothing valid.
func TestRefusals(t *testing.T) {
	for _, c := range calls() {
		if _, e := c.do(good()); e != api.OK {
			t.Errorf("%s: %v", c.name, e)
		}
		for _, orders := range [][]int{nil, {0, 1, 1}, {1, 1, api.MaxOrders + 1}, {1, -1, 1}, {math.MinInt, 1, 1}, {1, 1, math.MaxInt}, slices.Repeat([]int{1}, 9)} {
			a := good()
			a.orders, a.meals = orders, make([]int, len(orders))
			refuses(t, c, a)
		}
		for _, n := range []int{-1, api.MaxMeals + 1, math.MaxInt, math.MinInt} {
			a := good()
			a.n = n
			if c.hasN {
				refuses(t, c, a)
			}
		}
		for _, kind := range []int{-1, 3, math.MaxInt, math.MinInt} {
			a := good()
			a.kind = kind
			if c.hasKind {
				refuses(t, c, a)
			}
		}
		for _, meals := range [][]int{nil, {1, 1}, {1, 1, 1, 1}, {1, 1, -1}, {1, api.MaxMeals + 1, 1}, {math.MaxInt, 1, 1}, {1, 1, math.MinInt}} {
			a := good()
			a.meals = meals
			if c.hasMeals {
				refuses(t, c, a)
			}
		}
		for _, schools := range [][]int{nil, {3}, {-1, 0}, {1, 0}, {1, 1}} {
			a := good()
			a.schools = schools
			if c.hasSome {
				refuses(t, c, a)
			}
		}
	}
}

// P4.1 to P4.5: an argument that a function does not have cannot make it refuse.
func TestLimitsAreAccepted(t *testing.T) {
	ends := []args{
		{slices.Repeat([]int{api.MaxOrders}, api.MaxSchools), slices.Repeat([]int{api.MaxMeals}, api.MaxSchools), []int{0, 1, 2, 3, 4, 5, 6, 7}, api.MaxMeals, api.Up, 7, api.Rat{Num: 1000, Den: 1}},
		{[]int{1}, []int{0}, []int{0}, 0, api.Down, 0, api.Rat{Num: 1, Den: 1}},
	}
	for _, a := range ends {
		for _, c := range calls() {
			b := a
			if c.name == "Loses" {
				b.n = min(b.n, api.MaxMeals-1)
			}
			if _, e := c.do(b); e != api.OK {
				t.Errorf("%s with %v: %v", c.name, b, e)
			}
		}
	}
}

// P4.2 and P4.3: of several errors the one that is named first.
func TestOrderOfErrors(t *testing.T) {
	wrong := api.Rat{Num: 9, Den: 1}
	bad := api.Rat{Num: 2, Den: 2}
	for _, x := range []struct {
		name string
		got  api.Errno
		want api.Errno
	}{
		{"a wrong divisor", Check([]int{7, 2, 1}, []int{4, 1, 1}, api.Half, wrong), api.ErrProof},
		{"no orders, a wrong divisor", Check([]int{0, 2, 1}, []int{4, 1, 1}, api.Half, wrong), api.ErrArg},
		{"no kind, a wrong divisor", Check([]int{7, 2, 1}, []int{4, 1, 1}, 3, wrong), api.ErrArg},
		{"no meals, a wrong divisor", Check([]int{7, 2, 1}, []int{4, 1}, api.Half, wrong), api.ErrArg},
		{"no fraction that proves nothing", Check([]int{7, 2, 1}, []int{1, 1, 4}, api.Half, bad), api.ErrArg},
	} {
		if x.got != x.want {
			t.Errorf("%s: %v, want %v", x.name, x.got, x.want)
		}
	}
	a := good()
	a.school = 3
	for _, n := range []int{-1, api.MaxMeals + 1} {
		if _, e := Quota(a.orders, n, a.school); e != api.ErrArg {
			t.Errorf("Quota of %d for no school: %v", n, e)
		}
	}
	if _, e := Quota([]int{0}, 1, a.school); e != api.ErrArg {
		t.Errorf("Quota of no orders for no school: %v", e)
	}
	if _, e := Quota(a.orders, 1, a.school); e != api.ErrNone {
		t.Errorf("Quota for no school: %v", e)
	}
}

// spoil writes into all memory of the slices of results, also that behind their ends.
func spoil(results []any) {
	over := func(l []int) {
		l = l[:cap(l)]
		for i := range l {
			l[i] = -7
		}
	}
	for _, x := range results {
		switch l := x.(type) {
		case []int:
			over(l)
		case [3][]int:
			for _, row := range l {
				over(row)
			}
		}
	}
}

// P4.1 to P4.5 with R5 and R11: arguments stay as they are, results are memory of their own, equal calls are equal.
func TestMemory(t *testing.T) {
	for _, c := range calls() {
		a := good()
		a.n = 11
		first, e := c.do(a)
		second, f := c.do(a)
		if e != f || !reflect.DeepEqual(first, second) {
			t.Errorf("%s twice: %v, %v and %v, %v", c.name, first, e, second, f)
		}
		spoil(first)
		third, g := c.do(a)
		if e != g || !reflect.DeepEqual(second, third) {
			t.Errorf("%s after its result was changed: %v, %v, want %v, %v", c.name, third, g, second, e)
		}
		want := good()
		want.n = 11
		if !reflect.DeepEqual(a, want) {
			t.Errorf("%s changed its arguments: %v", c.name, a)
		}
	}
	best, _ := Best([]int{5, 5}, 2)
	for kind, row := range best {
		_ = append(row, -7)
		row[0] = -kind - 1
	}
	for kind, row := range best {
		if !slices.Equal(row, []int{-kind - 1, 1}) {
			t.Errorf("the rows of Best share memory: %v", best)
		}
	}
}

// P4.1 and P4.3 with R4: a nil list is an empty one.
func TestNoList(t *testing.T) {
	for _, l := range [][]int{nil, {}} {
		if Validate(l) != api.ErrArg {
			t.Errorf("Validate of %#v is OK", l)
		}
		if _, e := Claimer([]int{1}, l, api.Down); e != api.ErrArg {
			t.Errorf("Claimer with %#v: %v", l, e)
		}
		if _, e := Some([]int{1}, l, 1, api.Down); e != api.ErrArg {
			t.Errorf("Some for %#v: %v", l, e)
		}
	}
}
