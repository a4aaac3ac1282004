package guess

import (
	"math"
	"reflect"
	"slices"
	"testing"

	"canteen/api"
)

// args are arguments for any function of the package.
type args struct {
	g                 []api.Round
	advice            []bool
	counts, l         []int
	adviser, advisers int
	times             int
	over, under, q    int
	trials, winsOf    int
	wins, losses      int
	num, den          int
	level             api.Rat
}

// good are arguments that no function refuses.
func good() args {
	return args{
		g: []api.Round{
			{Advice: []bool{true, false, true}, Came: true},
			{Advice: []bool{false, false, true}, Came: true},
			{Advice: []bool{true, true, false}, Came: false},
		},
		advice: []bool{false, true, true}, counts: []int{1, 0, 2, 1}, l: []int{3, 8, 5},
		adviser: 1, advisers: 3, times: 2, over: 1, under: 3, q: 2,
		trials: 5, winsOf: 2, wins: 1, losses: 4, num: 1, den: 3, level: api.Rat{Num: 1, Den: 5},
	}
}

// call is a call of a function with some of the arguments, and the letters of those it has: g (a game), n (needs its number of advisers), i (an adviser), a (advice), b (a bound), c (counts), q (portions), t (a tail), w (comparisons), s (smoothing).
type call struct {
	name, has string
	do        func(a args) ([]any, api.Errno)
}

// callsOfGames are calls of the functions of advisers; the results of each stand in a list.
func callsOfGames() []call {
	return []call{
		{"Validate", "g", func(a args) ([]any, api.Errno) { return nil, Validate(a.g) }},
		{"Wrong", "gni", func(a args) ([]any, api.Errno) { x, e := Wrong(a.g, a.adviser); return []any{x}, e }},
		{"Weights", "gn", func(a args) ([]any, api.Errno) { x, e := Weights(a.g); return []any{x}, e }},
		{"Say", "ga", func(a args) ([]any, api.Errno) { x, e := Say(a.g, a.advice); return []any{x}, e }},
		{"Said", "g", func(a args) ([]any, api.Errno) { x, e := Said(a.g); return []any{x}, e }},
		{"Errors", "g", func(a args) ([]any, api.Errno) { x, e := Errors(a.g); return []any{x}, e }},
		{"BestAdviser", "gn", func(a args) ([]any, api.Errno) { x, y, e := BestAdviser(a.g); return []any{x, y}, e }},
		{"Bound", "b", func(a args) ([]any, api.Errno) { x, e := Bound(a.advisers, a.times); return []any{x}, e }},
		{"Halving", "gn", func(a args) ([]any, api.Errno) {
			x, y, is, e := Halving(a.g)
			return []any{x, y, is}, e
		}},
	}
}

// calls are calls of all functions.
func calls() []call {
	return append(callsOfGames(),
		call{"Cost", "cq", func(a args) ([]any, api.Errno) {
			x, e := Cost(a.counts, a.over, a.under, a.q)
			return []any{x}, e
		}},
		call{"Quantity", "c", func(a args) ([]any, api.Errno) {
			x, e := Quantity(a.counts, a.over, a.under)
			return []any{x}, e
		}},
		call{"IsBest", "cq", func(a args) ([]any, api.Errno) {
			x, e := IsBest(a.counts, a.over, a.under, a.q)
			return []any{x}, e
		}},
		call{"Marginal", "cq", func(a args) ([]any, api.Errno) {
			x, e := Marginal(a.counts, a.over, a.under, a.q)
			return []any{x}, e
		}},
		call{"Tail", "t", func(a args) ([]any, api.Errno) { x, e := Tail(a.trials, a.winsOf); return []any{x}, e }},
		call{"Worse", "w", func(a args) ([]any, api.Errno) {
			x, e := Worse(a.wins, a.losses, a.level)
			return []any{x}, e
		}},
		call{"Smooth", "s", func(a args) ([]any, api.Errno) { x, e := Smooth(a.l, a.num, a.den); return []any{x}, e }})
}

// wrongArg is an argument that the functions with a letter refuse, and the error for it.
type wrongArg struct {
	letter rune
	set    func(a *args)
	want   api.Errno
}

// advised are rounds with so many pieces of advice each.
func advised(pieces ...int) []api.Round {
	var g []api.Round
	for _, n := range pieces {
		g = append(g, api.Round{Advice: make([]bool, n)})
	}
	return g
}

// wrongLists are arguments that are refused because of a list.
func wrongLists() []wrongArg {
	ones := slices.Repeat([]int{1}, api.MaxDemand+2)
	return []wrongArg{
		{'g', func(a *args) { a.g = make([]api.Round, api.MaxRounds+1) }, api.ErrLarge},
		{'g', func(a *args) { a.g = slices.Repeat(good().g[:1], api.MaxRounds+1) }, api.ErrLarge},
		{'g', func(a *args) { a.g = slices.Repeat(advised(3, 2), api.MaxRounds) }, api.ErrLarge},
		{'g', func(a *args) { a.g = advised(0) }, api.ErrArg},
		{'g', func(a *args) { a.g = advised(0, 0, 0) }, api.ErrArg},
		{'g', func(a *args) { a.g = advised(9) }, api.ErrArg},
		{'g', func(a *args) { a.g = advised(9, 9) }, api.ErrArg},
		{'g', func(a *args) { a.g = advised(3, 3, 2) }, api.ErrArg},
		{'g', func(a *args) { a.g = advised(3, 4, 3) }, api.ErrArg},
		{'g', func(a *args) { a.g = advised(2, 3, 3) }, api.ErrArg},
		{'g', func(a *args) { a.g = advised(3, 3, 0) }, api.ErrArg},
		{'g', func(a *args) { a.g = advised(3, 9) }, api.ErrArg},
		{'n', func(a *args) { a.g = nil }, api.ErrNone},
		{'n', func(a *args) { a.g = []api.Round{} }, api.ErrNone},
		{'a', func(a *args) { a.advice = nil }, api.ErrArg},
		{'a', func(a *args) { a.advice = a.advice[:2] }, api.ErrArg},
		{'a', func(a *args) { a.advice = make([]bool, 4) }, api.ErrArg},
		{'a', func(a *args) { a.advice = make([]bool, 9) }, api.ErrArg},
		{'a', func(a *args) { a.advice = []bool{} }, api.ErrArg},
		{'a', func(a *args) { a.g, a.advice = a.g[:1], a.advice[:2] }, api.ErrArg},
		{'a', func(a *args) { a.g, a.advice = a.g[:1], make([]bool, 4) }, api.ErrArg},
		{'a', func(a *args) { a.g, a.advice = nil, nil }, api.ErrArg},
		{'a', func(a *args) { a.g, a.advice = nil, make([]bool, 9) }, api.ErrArg},
		{'c', func(a *args) { a.counts = nil }, api.ErrArg},
		{'c', func(a *args) { a.counts = []int{} }, api.ErrArg},
		{'c', func(a *args) { a.counts = []int{0} }, api.ErrArg},
		{'c', func(a *args) { a.counts = []int{0, 0, 0} }, api.ErrArg},
		{'c', func(a *args) { a.counts = ones }, api.ErrArg},
		{'c', func(a *args) { a.counts[0] = -1 }, api.ErrArg},
		{'c', func(a *args) { a.counts[3] = api.MaxCount + 1 }, api.ErrArg},
		{'c', func(a *args) { a.over = api.MaxCost + 1 }, api.ErrArg},
		{'c', func(a *args) { a.under = api.MaxCost + 1 }, api.ErrArg},
		{'q', func(a *args) { a.q = api.MaxDemand + 1 }, api.ErrArg},
		{'s', func(a *args) { a.l = nil }, api.ErrArg},
		{'s', func(a *args) { a.l = []int{} }, api.ErrArg},
		{'s', func(a *args) { a.l[0] = api.MaxOrders + 1 }, api.ErrArg},
		{'s', func(a *args) { a.l[2] = -1 }, api.ErrArg},
		{'s', func(a *args) { a.l = make([]int, 9) }, api.ErrLarge},
		{'s', func(a *args) { a.l = append(make([]int, 9), -1) }, api.ErrArg},
		{'s', func(a *args) { a.l, a.num = make([]int, 9), 4 }, api.ErrArg},
		{'s', func(a *args) { a.l, a.den = make([]int, 9), 11 }, api.ErrArg},
		{'s', func(a *args) { a.num, a.den = 0, 0 }, api.ErrArg},
	}
}

// wrongNumbers are arguments that are refused because of a number.
func wrongNumbers() []wrongArg {
	l := []wrongArg{
		{'i', func(a *args) { a.adviser = 3 }, api.ErrNone},
		{'b', func(a *args) { a.advisers = 0 }, api.ErrArg},
		{'b', func(a *args) { a.advisers = api.MaxAdvisers + 1 }, api.ErrArg},
		{'b', func(a *args) { a.times = api.MaxRounds + 1 }, api.ErrArg},
		{'t', func(a *args) { a.trials = api.MaxTrials + 1 }, api.ErrArg},
		{'t', func(a *args) { a.winsOf = 6 }, api.ErrArg},
		{'w', func(a *args) { a.wins = 37 }, api.ErrArg},
		{'w', func(a *args) { a.losses = 40 }, api.ErrArg},
		{'w', func(a *args) { a.wins, a.losses = math.MaxInt, math.MaxInt }, api.ErrArg},
		{'w', func(a *args) { a.wins, a.losses = math.MinInt, math.MinInt }, api.ErrArg},
		{'w', func(a *args) { a.wins, a.losses = -1, 41 }, api.ErrArg},
		{'w', func(a *args) { a.wins, a.losses = 41, -1 }, api.ErrArg},
		{'w', func(a *args) { a.wins, a.losses = 41, 0 }, api.ErrArg},
		{'w', func(a *args) { a.wins, a.losses = 0, 41 }, api.ErrArg},
		{'s', func(a *args) { a.num = 4 }, api.ErrArg},
		{'s', func(a *args) { a.den = 11 }, api.ErrArg},
	}
	for _, x := range []int{-1, math.MinInt, math.MaxInt} {
		l = append(l,
			wrongArg{'i', func(a *args) { a.adviser = x }, api.ErrNone},
			wrongArg{'b', func(a *args) { a.advisers = x }, api.ErrArg},
			wrongArg{'b', func(a *args) { a.times = x }, api.ErrArg},
			wrongArg{'c', func(a *args) { a.counts[1] = x }, api.ErrArg},
			wrongArg{'c', func(a *args) { a.over = x }, api.ErrArg},
			wrongArg{'c', func(a *args) { a.under = x }, api.ErrArg},
			wrongArg{'q', func(a *args) { a.q = x }, api.ErrArg},
			wrongArg{'t', func(a *args) { a.trials = x }, api.ErrArg},
			wrongArg{'t', func(a *args) { a.winsOf = x }, api.ErrArg},
			wrongArg{'w', func(a *args) { a.wins = x }, api.ErrArg},
			wrongArg{'w', func(a *args) { a.losses = x }, api.ErrArg},
			wrongArg{'s', func(a *args) { a.l[1] = x }, api.ErrArg},
			wrongArg{'s', func(a *args) { a.num = x }, api.ErrArg},
			wrongArg{'s', func(a *args) { a.den = x }, api.ErrArg})
	}
	for _, r := range []api.Rat{{}, {Num: 0, Den: 2}, {Num: 2, Den: 4}, {Num: 2, Den: 2}, {Num: 2, Den: 1}, {Num: 1000, Den: 999}, {Num: -1, Den: 2}, {Num: -1, Den: -2}, {Num: 1, Den: -2}, {Num: 0, Den: -1}, {Num: 1, Den: 0}, {Num: 1, Den: 1001}, {Num: 1000, Den: 1001}, {Num: math.MaxInt, Den: 1}, {Num: math.MinInt, Den: 1}, {Num: 1, Den: math.MaxInt}, {Num: 1, Den: math.MinInt}, {Num: math.MinInt, Den: math.MinInt}} {
		l = append(l, wrongArg{'w', func(a *args) { a.level = r }, api.ErrArg})
	}
	return l
}

// hasLetter reports whether a function has an argument with a letter.
func (c call) hasLetter(letter rune) bool {
	return slices.Contains([]rune(c.has), letter)
}

// refuses reports an error if a call does not return the error and zero values.
func refuses(t *testing.T, c call, a args, want api.Errno) {
	t.Helper()
	results, e := c.do(a)
	if e != want {
		t.Errorf("%s with %v: %v, want %v", c.name, a, e, want)
	}
	for _, x := range results {
		if v := reflect.ValueOf(x); !v.IsZero() && !(v.Kind() == reflect.Slice && v.Len() == 0) {
			t.Errorf("%s with %v: %v beside an error", c.name, a, x)
		}
	}
}

// P6.1 to P6.5: each function refuses each wrong argument that it has.
func TestRefusals(t *testing.T) {
	for _, c := range calls() {
		if _, e := c.do(good()); e != api.OK {
			t.Errorf("%s: %v", c.name, e)
		}
		n := 0
		for _, w := range append(wrongLists(), wrongNumbers()...) {
			if c.hasLetter(w.letter) {
				a := good()
				w.set(&a)
				refuses(t, c, a, w.want)
				n++
			}
		}
		if n < 8 {
			t.Errorf("%s was called only %d times", c.name, n)
		}
	}
}

// P6.1 with R2: the errors of the game come before those of the adviser and of the advice.
func TestOrderOfErrors(t *testing.T) {
	all := append(wrongLists(), wrongNumbers()...)
	for _, c := range callsOfGames() {
		for _, first := range all {
			for _, second := range all {
				if first.letter == 'g' && (second.letter == 'i' || second.letter == 'a') && c.hasLetter('g') && c.hasLetter(second.letter) {
					a := good()
					second.set(&a)
					first.set(&a)
					refuses(t, c, a, first.want)
				}
			}
		}
	}
}

// P6.1: a game without rounds is one, for functions that do not need the number of advisers.
func TestNoRounds(t *testing.T) {
	for _, g := range [][]api.Round{nil, {}} {
		if e := Validate(g); e != api.OK {
			t.Errorf("Validate: %v", e)
		}
		if said, e := Said(g); e != api.OK || len(said) != 0 {
			t.Errorf("Said: %v, %v", said, e)
		}
		if n, e := Errors(g); e != api.OK || n != 0 {
			t.Errorf("Errors: %d, %v", n, e)
		}
		for pieces := 1; pieces <= api.MaxAdvisers; pieces++ {
			if yes, e := Say(g, slices.Repeat([]bool{true}, pieces)); e != api.OK || !yes {
				t.Errorf("Say with %d pieces of advice: %v, %v", pieces, yes, e)
			}
		}
	}
}

// P6.1 to P6.5: the ends of what is allowed are accepted.
func TestEndsAreAccepted(t *testing.T) {
	for _, set := range []func(a *args){
		func(a *args) {
			a.g, a.advice, a.adviser = advised(1), make([]bool, 1), 0
			a.advisers, a.times = 1, 0
			a.counts, a.over, a.under, a.q = []int{1}, 0, 0, 0
			a.trials, a.winsOf, a.wins, a.losses, a.level = 0, 0, 0, 0, api.Rat{Num: 0, Den: 1}
			a.l, a.num, a.den = []int{0}, 0, 1
		},
		func(a *args) {
			a.g, a.advice, a.adviser = advised(slices.Repeat([]int{8}, 24)...), make([]bool, 8), 7
			a.advisers, a.times = api.MaxAdvisers, api.MaxRounds
			a.counts, a.over, a.under, a.q = slices.Repeat([]int{api.MaxCount}, 101), api.MaxCost, api.MaxCost, api.MaxDemand
			a.trials, a.winsOf, a.wins, a.losses, a.level = 40, 40, 0, 40, api.Rat{Num: 999, Den: 1000}
			a.l, a.num, a.den = slices.Repeat([]int{api.MaxOrders}, 8), 10, 10
		},
		func(a *args) {
			a.wins, a.losses, a.level = 40, 0, api.Rat{Num: 1, Den: 1}
			a.trials, a.winsOf = 40, 0
			a.num, a.den = 2, 4
			a.counts = []int{0, 0, 1}
		},
		func(a *args) { a.wins, a.losses, a.level = 20, 20, api.Rat{Num: 1, Den: 1000} },
		func(a *args) { a.adviser, a.num = 0, 3 },
		func(a *args) { a.adviser, a.counts = 2, append(make([]int, 100), 1) },
	} {
		for _, c := range calls() {
			a := good()
			set(&a)
			if _, e := c.do(a); e != api.OK {
				t.Errorf("%s with %v: %v", c.name, a, e)
			}
		}
	}
}

// spoil writes into all memory of the slices of results, also that behind their ends.
func spoil(results []any) {
	for _, x := range results {
		v := reflect.ValueOf(x)
		if v.Kind() != reflect.Slice {
			continue
		}
		v = v.Slice(0, v.Cap())
		for i := range v.Len() {
			v.Index(i).SetZero()
		}
	}
}

// P6.1 to P6.5 with R5 and R11: arguments stay as they are, results are memory of their own, equal calls are equal.
func TestMemory(t *testing.T) {
	for _, c := range calls() {
		a := good()
		first, e := c.do(a)
		second, f := c.do(a)
		if e != f || !reflect.DeepEqual(first, second) {
			t.Errorf("%s twice: %v, %v and %v, %v", c.name, first, e, second, f)
		}
		spoil(first)
		third, g := c.do(a)
		if e != g || !reflect.DeepEqual(second, third) {
			t.Errorf("%s after its result was changed: %v, %v, want %v, %v", c.name, third, g, second, e)
		}
		if !reflect.DeepEqual(a, good()) {
			t.Errorf("%s changed its arguments: %v", c.name, a)
		}
	}
}
