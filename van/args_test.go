package van

import (
	"math"
	"reflect"
	"slices"
	"testing"

	"canteen/api"
)

// args are arguments for any function of the package.
type args struct {
	ways                [][]int
	potentials          []int
	first, begin, boxes int
	stops               []api.Stop
	tour                []int
}

// good are arguments that no function refuses.
func good() args {
	return args{
		ways:       [][]int{{0, 3, 4, 9}, {3, 0, 5, 2}, {4, 5, 0, 6}, {9, 2, 6, 0}},
		potentials: []int{1, -2, 30, 4},
		first:      2, begin: 7, boxes: 5,
		stops: []api.Stop{{}, {Open: 10, Close: 30, Stay: 2, Boxes: 3}, {Open: 0, Close: 50, Stay: 1, Boxes: 2}, {Open: 20, Close: 40, Stay: 5, Boxes: 4}},
		tour:  []int{1, 3, 2},
	}
}

// call is a call of a function with some of the arguments, and the letters of those it has: w (ways), p (potentials), f (a first stop), s (stops), t (a tour), b (a begin), x (boxes), c (the windows decide).
type call struct {
	name, has string
	do        func(a args) ([]any, api.Errno)
}

// callsOfWays are calls of the functions without stops; the results of each stand in a list.
func callsOfWays() []call {
	return []call{
		{"Validate", "w", func(a args) ([]any, api.Errno) { return nil, Validate(a.ways) }},
		{"Length", "wt", func(a args) ([]any, api.Errno) { x, e := Length(a.ways, a.tour); return []any{x}, e }},
		{"Shortest", "w", func(a args) ([]any, api.Errno) { x, e := Shortest(a.ways); return []any{x}, e }},
		{"Tour", "w", func(a args) ([]any, api.Errno) { x, e := Tour(a.ways); return []any{x}, e }},
		{"Tree", "w", func(a args) ([]any, api.Errno) { x, e := Tree(a.ways); return []any{x}, e }},
		{"Bound", "wp", func(a args) ([]any, api.Errno) { x, e := Bound(a.ways, a.potentials); return []any{x}, e }},
		{"Improve", "wp", func(a args) ([]any, api.Errno) { x, e := Improve(a.ways, a.potentials); return []any{x}, e }},
		{"Round", "wf", func(a args) ([]any, api.Errno) { x, e := Round(a.ways, a.first); return []any{x}, e }},
		{"Direct", "w", func(a args) ([]any, api.Errno) { x, e := Direct(a.ways); return []any{x}, e }},
		{"IsDirect", "w", func(a args) ([]any, api.Errno) { x, e := IsDirect(a.ways); return []any{x}, e }},
	}
}

// callsOfStops are calls of the functions with stops.
func callsOfStops() []call {
	return []call{
		{"ValidateStops", "ws", func(a args) ([]any, api.Errno) { return nil, ValidateStops(a.ways, a.stops) }},
		{"Drive", "wstb", func(a args) ([]any, api.Errno) {
			x, back, e := Drive(a.ways, a.stops, a.tour, a.begin)
			return []any{x, back}, e
		}},
		{"Check", "wstbc", func(a args) ([]any, api.Errno) {
			x, e := Check(a.ways, a.stops, a.tour, a.begin)
			return []any{x}, e
		}},
		{"Earliest", "wsb", func(a args) ([]any, api.Errno) {
			x, back, is, e := Earliest(a.ways, a.stops, a.begin)
			return []any{x, back, is}, e
		}},
		{"Latest", "wst", func(a args) ([]any, api.Errno) {
			x, is, e := Latest(a.ways, a.stops, a.tour)
			return []any{x, is}, e
		}},
		{"Trips", "wstx", func(a args) ([]any, api.Errno) {
			x, sum, e := Trips(a.ways, a.stops, a.tour, a.boxes)
			return []any{x, sum}, e
		}},
	}
}

// calls are calls of all functions.
func calls() []call {
	return append(callsOfWays(), callsOfStops()...)
}

// hasLetter reports whether a function has an argument with a letter.
func (c call) hasLetter(letter rune) bool {
	return slices.Contains([]rune(c.has), letter)
}

// wrongArg is an argument that the functions with a letter refuse, and the error for it.
type wrongArg struct {
	letter rune
	set    func(a *args)
	want   api.Errno
}

// far are numbers that nothing allows.
func far() []int {
	return []int{math.MinInt, math.MinInt32, math.MaxInt32, math.MaxInt}
}

// tooLarge are ways of no places or too many.
func tooLarge() []wrongArg {
	return []wrongArg{
		{'w', func(a *args) { a.ways = nil }, api.ErrLarge},
		{'w', func(a *args) { a.ways = [][]int{} }, api.ErrLarge},
		{'w', func(a *args) { a.ways = make([][]int, api.MaxStops+1) }, api.ErrLarge},
		{'w', func(a *args) { a.ways = square(api.MaxStops + 1) }, api.ErrLarge},
	}
}

// square are ways of no minutes.
func square(n int) [][]int {
	ways := make([][]int, n)
	for i := range ways {
		ways[i] = make([]int, n)
	}
	return ways
}

// wrongWays are ways that are not a table of ways.
func wrongWays() []wrongArg {
	l := []wrongArg{
		{'w', func(a *args) { a.ways = [][]int{nil} }, api.ErrArg},
		{'w', func(a *args) { a.ways = [][]int{{1}} }, api.ErrArg},
		{'w', func(a *args) { a.ways = [][]int{{0, 0}} }, api.ErrArg},
		{'w', func(a *args) { a.ways = make([][]int, api.MaxStops) }, api.ErrArg},
		{'w', func(a *args) { a.ways = a.ways[:3] }, api.ErrArg},
		{'w', func(a *args) { a.ways = append(a.ways, nil) }, api.ErrArg},
	}
	for i := range 4 {
		l = append(l,
			wrongArg{'w', func(a *args) { a.ways[i] = nil }, api.ErrArg},
			wrongArg{'w', func(a *args) { a.ways[i] = a.ways[i][:3] }, api.ErrArg},
			wrongArg{'w', func(a *args) { a.ways[i] = append(a.ways[i], 0) }, api.ErrArg})
		for _, x := range append(far(), -1, 1, api.MaxMinutes+1) {
			l = append(l, wrongArg{'w', func(a *args) { a.ways[i][i] = x }, api.ErrArg})
		}
		for j := range i {
			for _, x := range append(far(), -1, api.MaxMinutes+1) {
				l = append(l, wrongArg{'w', func(a *args) { a.ways[i][j], a.ways[j][i] = x, x }, api.ErrArg})
			}
			l = append(l,
				wrongArg{'w', func(a *args) { a.ways[i][j]++ }, api.ErrArg},
				wrongArg{'w', func(a *args) { a.ways[j][i]++ }, api.ErrArg})
		}
	}
	return l
}

// wrongPotentials are potentials that are refused, and numbers of no stop.
func wrongPotentials() []wrongArg {
	var l []wrongArg
	for _, p := range [][]int{nil, {}, {0}, {0, 0, 0}, {0, 0, 0, 0, 0}, make([]int, 8)} {
		l = append(l, wrongArg{'p', func(a *args) { a.potentials = p }, api.ErrArg})
	}
	for _, x := range append(far(), -1001, 1001) {
		for i := range 4 {
			l = append(l, wrongArg{'p', func(a *args) { a.potentials[i] = x }, api.ErrArg})
		}
	}
	for _, n := range []int{1, 2} {
		l = append(l, wrongArg{'p', func(a *args) { a.ways, a.potentials = square(n), make([]int, n) }, api.ErrArg})
	}
	for _, x := range append(far(), -1, 0, 4, 5, 7) {
		l = append(l, wrongArg{'f', func(a *args) { a.first = x }, api.ErrNone})
	}
	return append(l, wrongArg{'f', func(a *args) { a.ways, a.first = square(1), 1 }, api.ErrNone})
}

// wrongStops are stops that are refused.
func wrongStops() []wrongArg {
	var l []wrongArg
	for _, n := range []int{0, 1, 3, 5, 7} {
		l = append(l, wrongArg{'s', func(a *args) { a.stops = make([]api.Stop, n) }, api.ErrArg})
	}
	for i := range 4 {
		for _, x := range append(far(), -1, 10001) {
			l = append(l,
				wrongArg{'s', func(a *args) { a.stops[i].Open = x }, api.ErrArg},
				wrongArg{'s', func(a *args) { a.stops[i].Close = x }, api.ErrArg},
				wrongArg{'s', func(a *args) { a.stops[i].Stay = x }, api.ErrArg})
		}
		for _, x := range append(far(), -1, 101) {
			l = append(l, wrongArg{'s', func(a *args) { a.stops[i].Boxes = x }, api.ErrArg})
		}
	}
	return l
}

// unknownStops are tours with an element that is no stop.
func unknownStops() []wrongArg {
	var l []wrongArg
	for _, tour := range [][]int{{0}, {4}, {-1}, {1, 2, 3, 0}, {1, 0, 2}, {1, 2, 4}, {5, 1}, {7}, {1, 1, 4}, {0, 1, 1}, {2, 1, 2, -1}, {1, 2, 3, 4, 5, 6, 7, 8, 9}, {math.MaxInt, 1}, {1, math.MinInt}} {
		l = append(l, wrongArg{'t', func(a *args) { a.tour = tour }, api.ErrNone})
	}
	return l
}

// twiceStops are tours to a stop that comes twice.
func twiceStops() []wrongArg {
	var l []wrongArg
	for _, tour := range [][]int{{1, 1}, {3, 3}, {1, 2, 1}, {2, 1, 3, 2}, {1, 2, 3, 3}, slices.Repeat([]int{3, 1, 2}, 5)} {
		l = append(l, wrongArg{'t', func(a *args) { a.tour = tour }, api.ErrTwice})
	}
	return l
}

// wrongNumbers are begins and numbers of boxes that are refused.
func wrongNumbers() []wrongArg {
	var l []wrongArg
	for _, x := range far() {
		l = append(l,
			wrongArg{'b', func(a *args) { a.begin = x }, api.ErrArg},
			wrongArg{'x', func(a *args) { a.boxes = x }, api.ErrArg})
	}
	return append(l,
		wrongArg{'b', func(a *args) { a.begin = -1 }, api.ErrArg},
		wrongArg{'b', func(a *args) { a.begin = 10001 }, api.ErrArg},
		wrongArg{'x', func(a *args) { a.boxes = -1 }, api.ErrArg},
		wrongArg{'x', func(a *args) { a.boxes = 101 }, api.ErrArg})
}

// tooFew are numbers of boxes that are too small for a stop, whatever the tour is.
func tooFew() []wrongArg {
	return []wrongArg{
		{'x', func(a *args) { a.boxes = 0 }, api.ErrShort},
		{'x', func(a *args) { a.boxes = 1 }, api.ErrShort},
	}
}

// wrongLists are the wrong arguments in the order in which their errors come.
func wrongLists() [][]wrongArg {
	return [][]wrongArg{tooLarge(), wrongWays(), wrongPotentials(), wrongStops(), unknownStops(), twiceStops(), wrongNumbers(), tooFew()}
}

// refuses reports an error if a call does not return the error and zero values.
func refuses(t *testing.T, c call, a args, want api.Errno) {
	t.Helper()
	results, e := c.do(a)
	if e != want {
		t.Errorf("%s with %v: %v, want %v", c.name, a, e, want)
	}
	for _, x := range results {
		if v := reflect.ValueOf(x); !v.IsZero() && !(v.Kind() == reflect.Slice && v.Len() == 0) {
			t.Errorf("%s with %v: %v beside an error", c.name, a, x)
		}
	}
}

// P8.1 to P8.7: each function refuses each wrong argument that it has.
func TestRefusals(t *testing.T) {
	for _, c := range calls() {
		if _, e := c.do(good()); e != api.OK {
			t.Errorf("%s: %v", c.name, e)
		}
		n := 0
		for _, w := range slices.Concat(wrongLists()...) {
			if c.hasLetter(w.letter) {
				a := good()
				w.set(&a)
				refuses(t, c, a, w.want)
				n++
			}
		}
		if n < 50 {
			t.Errorf("%s was called only %d times", c.name, n)
		}
	}
}

// P8.1 to P8.7 with R1 and R2: of two wrong arguments, that whose error comes first decides.
func TestOrderOfErrors(t *testing.T) {
	lists := wrongLists()
	for _, c := range calls() {
		for later := range lists {
			for earlier := range later {
				for _, v := range lists[earlier] {
					for _, w := range lists[later] {
						// two changes of one argument may be one
						if !c.hasLetter(v.letter) || !c.hasLetter(w.letter) || v.letter == w.letter || v.letter == 'w' && (w.letter == 'p' || w.letter == 'f') {
							continue
						}
						a := good()
						w.set(&a)
						v.set(&a)
						refuses(t, c, a, v.want)
					}
				}
			}
		}
	}
}

// P8.1, P8.3 and P8.7 with R1: of two errors of one argument, the one that is named first decides.
func TestOrderOfErrorsOfOne(t *testing.T) {
	wrong := square(8)
	wrong[1][1] = -1
	if e := Validate(wrong); e != api.ErrLarge {
		t.Errorf("Validate of eight places: %v", e)
	}
	for _, c := range calls() {
		if c.hasLetter('p') {
			for _, ways := range [][][]int{{{0, 1}, {2, 0}}, {{3}}} {
				a := good()
				a.ways = ways
				refuses(t, c, a, api.ErrArg)
			}
			a := good()
			a.ways, a.potentials = nil, nil
			refuses(t, c, a, api.ErrLarge)
		}
		if c.hasLetter('x') {
			for _, boxes := range []int{-1, math.MinInt} {
				a := good()
				a.boxes = boxes
				refuses(t, c, a, api.ErrArg)
			}
		}
	}
}

// P8.1 to P8.7: the ends of what is allowed are accepted.
func TestEndsAreAccepted(t *testing.T) {
	for _, set := range []func(a *args){
		func(a *args) {
			a.ways = square(7)
			for i := range a.ways {
				for j := range a.ways {
					if i != j {
						a.ways[i][j] = 1000
					}
				}
			}
			a.potentials, a.first, a.begin, a.boxes = slices.Repeat([]int{1000}, 7), 6, 0, 100
			a.stops = slices.Repeat([]api.Stop{{Open: 10000, Close: 10000, Stay: 0, Boxes: 100}}, 7)
			a.tour = []int{6}
		},
		func(a *args) {
			a.ways, a.potentials, a.stops = square(3), []int{-1000, -1000, -1000}, slices.Repeat([]api.Stop{{Close: 10000, Stay: 10000}}, 3)
			a.first, a.begin, a.boxes, a.tour = 1, 10000, 0, []int{1}
		},
		func(a *args) { a.begin, a.tour = 10000, nil },
		func(a *args) { a.begin, a.tour = 0, []int{} },
		// the boxes of a stop that is not in the tour do not matter
		func(a *args) { a.boxes, a.tour = 2, []int{2} },
	} {
		for _, c := range calls() {
			a := good()
			set(&a)
			if _, e := c.do(a); e != api.OK {
				t.Errorf("%s with %v: %v", c.name, a, e)
			}
		}
	}
}

// spoil writes into all memory of the slices of a value, also that behind their ends.
func spoil(v reflect.Value) {
	if v.Kind() != reflect.Slice {
		return
	}
	v = v.Slice(0, v.Cap())
	for i := range v.Len() {
		spoil(v.Index(i))
		if v.Index(i).Kind() == reflect.Int {
			v.Index(i).SetInt(-77)
		}
	}
}

// P8.1 to P8.7 with R5 and R11: arguments stay as they are, results are memory of their own, equal calls are equal.
func TestMemory(t *testing.T) {
	for _, c := range calls() {
		a := good()
		first, e := c.do(a)
		second, f := c.do(a)
		if e != f || !reflect.DeepEqual(first, second) {
			t.Errorf("%s twice: %v, %v and %v, %v", c.name, first, e, second, f)
		}
		for _, x := range first {
			spoil(reflect.ValueOf(x))
		}
		third, g := c.do(a)
		if e != g || !reflect.DeepEqual(second, third) {
			t.Errorf("%s after its result was changed: %v, %v, want %v, %v", c.name, third, g, second, e)
		}
		if !reflect.DeepEqual(a, good()) {
			t.Errorf("%s changed its arguments: %v", c.name, a)
		}
	}
}

// P8.4 and P8.7 with R5: the rows of a result share no memory.
func TestRowsAreApart(t *testing.T) {
	for _, c := range calls() {
		results, _ := c.do(good())
		for _, x := range results {
			rows, is := x.([][]int)
			for i := range rows {
				want := make([][]int, len(rows))
				for j := range rows {
					want[j] = slices.Clone(rows[j])
				}
				spoil(reflect.ValueOf(rows[i]))
				for j := range rows {
					if j != i && !slices.Equal(rows[j], want[j]) {
						t.Errorf("%s: the rows %d and %d share memory", c.name, i, j)
					}
				}
			}
			if is && len(rows) < 2 {
				t.Errorf("%s: only %d rows", c.name, len(rows))
			}
		}
	}
}
