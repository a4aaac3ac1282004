package term

import (
	"math"
	"math/rand"
	"reflect"
	"slices"
	"testing"

	"canteen/api"
)

// example is the term of the document's example.
func example() api.Term { return api.Term{Length: 14, Rest: []int{5, 6}, Closed: []int{2}} }

// upTo returns the numbers from 0 to n - 1.
func upTo(n int) []int {
	l := make([]int, n)
	for i := range l {
		l[i] = i
	}
	return l
}

// someTerm returns a valid term.
func someTerm(r *rand.Rand) api.Term {
	t := api.Term{Length: 1 + r.Intn(40)}
	for d := range 7 {
		if len(t.Rest) < 6 && r.Intn(3) == 0 {
			t.Rest = append(t.Rest, d)
		}
	}
	for d := range t.Length {
		if r.Intn(5) == 0 {
			t.Closed = append(t.Closed, d)
		}
	}
	return t
}

// someCycle returns a valid cycle.
func someCycle(r *rand.Rand) api.Cycle {
	c := api.Cycle{Menus: 1 + r.Intn(5), Kind: r.Intn(2)}
	c.First = r.Intn(c.Menus)
	return c
}

// copyOf returns a term that shares no memory with t.
func copyOf(t api.Term) api.Term {
	return api.Term{Length: t.Length, Rest: slices.Clone(t.Rest), Closed: slices.Clone(t.Closed)}
}

// sameTerm reports whether two terms are the same, a nil slice being an empty one.
func sameTerm(a, b api.Term) bool {
	return a.Length == b.Length && slices.Equal(a.Rest, b.Rest) && slices.Equal(a.Closed, b.Closed)
}

// P1.1

func TestValidate(t *testing.T) {
	for i, c := range []struct {
		term api.Term
		want api.Errno
	}{
		{api.Term{Length: 1}, api.OK},
		{api.Term{Length: 1000}, api.OK},
		{api.Term{Length: 1, Rest: []int{}, Closed: []int{}}, api.OK},
		{api.Term{Length: 14, Rest: []int{5, 6}, Closed: []int{2}}, api.OK},
		{api.Term{Length: 9, Rest: []int{0, 1, 2, 3, 4, 5}}, api.OK},
		{api.Term{Length: 9, Rest: []int{1, 2, 3, 4, 5, 6}}, api.OK},
		{api.Term{Length: 9, Closed: upTo(9)}, api.OK},
		{api.Term{Length: 1000, Closed: upTo(60)}, api.OK},
		{api.Term{Length: 9, Rest: []int{5}, Closed: []int{5}}, api.OK},
		{api.Term{}, api.ErrArg},
		{api.Term{Length: -1}, api.ErrArg},
		{api.Term{Length: 1001}, api.ErrArg},
		{api.Term{Length: math.MaxInt}, api.ErrArg},
		{api.Term{Length: math.MinInt}, api.ErrArg},
		{api.Term{Length: 9, Rest: upTo(7)}, api.ErrArg},
		{api.Term{Length: 9, Rest: []int{7}}, api.ErrArg},
		{api.Term{Length: 9, Rest: []int{-1}}, api.ErrArg},
		{api.Term{Length: 9, Rest: []int{1, 1}}, api.ErrArg},
		{api.Term{Length: 9, Rest: []int{2, 1}}, api.ErrArg},
		{api.Term{Length: 9, Rest: []int{0, math.MaxInt}}, api.ErrArg},
		{api.Term{Length: 9, Rest: []int{math.MaxInt, math.MinInt}}, api.ErrArg},
		{api.Term{Length: 1000, Closed: upTo(61)}, api.ErrLarge},
		{api.Term{Length: 9, Closed: make([]int, 61)}, api.ErrLarge},
		{api.Term{Length: 9, Rest: []int{7}, Closed: upTo(61)}, api.ErrArg},
		{api.Term{Length: 1001, Closed: upTo(61)}, api.ErrArg},
		{api.Term{Length: 9, Closed: make([]int, 60)}, api.ErrArg},
		{api.Term{Length: 9, Closed: []int{9}}, api.ErrArg},
		{api.Term{Length: 9, Closed: []int{-1}}, api.ErrArg},
		{api.Term{Length: 9, Closed: []int{3, 3}}, api.ErrArg},
		{api.Term{Length: 9, Closed: []int{4, 3}}, api.ErrArg},
	} {
		if e := Validate(c.term); e != c.want {
			t.Errorf("%d: %v, want %v", i, e, c.want)
		}
	}
}

func TestValidateCycle(t *testing.T) {
	for _, c := range []struct {
		cycle api.Cycle
		want  api.Errno
	}{
		{api.Cycle{Menus: 1}, api.OK},
		{api.Cycle{Menus: 40, First: 39, Kind: api.Runs}, api.OK},
		{api.Cycle{Menus: 3, First: 2, Kind: api.Waits}, api.OK},
		{api.Cycle{}, api.ErrArg},
		{api.Cycle{Menus: -1, First: -2}, api.ErrArg},
		{api.Cycle{Menus: 41}, api.ErrArg},
		{api.Cycle{Menus: 3, First: 3}, api.ErrArg},
		{api.Cycle{Menus: 3, First: -1}, api.ErrArg},
		{api.Cycle{Menus: 3, Kind: 2}, api.ErrArg},
		{api.Cycle{Menus: 3, Kind: -1}, api.ErrArg},
		{api.Cycle{Menus: math.MaxInt, First: math.MaxInt, Kind: math.MinInt}, api.ErrArg},
	} {
		if e := ValidateCycle(c.cycle); e != c.want {
			t.Errorf("%v: %v, want %v", c.cycle, e, c.want)
		}
	}
}

// call is a call of a function of the package: its results but the error, and the error.
type call struct {
	name   string
	values func(x api.Term, a, b api.Cycle) ([]any, api.Errno)
}

// calls returns calls whose arguments other than terms and cycles are wrong too: for a day -1, and for a menu 99.
func calls() []call {
	return []call{
		{"IsOpen", func(x api.Term, a, b api.Cycle) ([]any, api.Errno) { v, e := IsOpen(x, -1); return []any{v}, e }},
		{"Count", func(x api.Term, a, b api.Cycle) ([]any, api.Errno) { v, e := Count(x, 2, 1); return []any{v}, e }},
		{"Next", func(x api.Term, a, b api.Cycle) ([]any, api.Errno) { v, e := Next(x, -1); return []any{v}, e }},
		{"Menu", func(x api.Term, a, b api.Cycle) ([]any, api.Errno) { v, e := Menu(x, a, -1); return []any{v}, e }},
		{"Days", func(x api.Term, a, b api.Cycle) ([]any, api.Errno) { v, e := Days(x, a, 99); return []any{v}, e }},
		{"Close", func(x api.Term, a, b api.Cycle) ([]any, api.Errno) { v, e := Close(x, -1); return []any{v}, e }},
		{"Reopen", func(x api.Term, a, b api.Cycle) ([]any, api.Errno) { v, e := Reopen(x, -1); return []any{v}, e }},
		{"Together", func(x api.Term, a, b api.Cycle) ([]any, api.Errno) {
			v, w, e := Together(x, a, b, 99, -1)
			return []any{v, w}, e
		}},
		{"Nth", func(x api.Term, a, b api.Cycle) ([]any, api.Errno) { v, e := Nth(x, -1); return []any{v}, e }},
		{"Served", func(x api.Term, a, b api.Cycle) ([]any, api.Errno) { v, e := Served(x, a); return []any{v}, e }},
		{"Lost", func(x api.Term, a, b api.Cycle) ([]any, api.Errno) { v, e := Lost(x, a); return []any{v}, e }},
		{"Format", func(x api.Term, a, b api.Cycle) ([]any, api.Errno) { v, e := Format(x); return []any{v}, e }},
		{"Turn", func(x api.Term, a, b api.Cycle) ([]any, api.Errno) { v, e := Turn(a, 1); return []any{v}, e }},
	}
}

// Errors of terms come first, then those of cycles, then the function's own; all come with zero values.
func TestOrderOfErrors(t *testing.T) {
	fine, bad := api.Cycle{Menus: 3}, api.Cycle{}
	large := api.Term{Length: 100, Closed: upTo(61)}
	for _, c := range calls() {
		takesTerm, takesCycle := c.name != "Turn", slices.Contains([]string{"Menu", "Days", "Together", "Served", "Lost", "Turn"}, c.name)
		own := api.ErrArg
		switch c.name {
		case "Nth":
			own = api.ErrNone
		case "Served", "Lost", "Format", "Turn":
			own = api.OK
		}
		for _, k := range []struct {
			term    api.Term
			a, b    api.Cycle
			want    api.Errno
			applies bool
		}{
			{large, bad, bad, api.ErrLarge, takesTerm},
			{api.Term{}, fine, fine, api.ErrArg, takesTerm},
			{example(), bad, fine, api.ErrArg, takesCycle},
			{example(), fine, bad, api.ErrArg, c.name == "Together"},
			{example(), fine, fine, own, own != api.OK},
		} {
			if !k.applies {
				continue
			}
			values, e := c.values(k.term, k.a, k.b)
			if e != k.want {
				t.Errorf("%s of %v, %v, %v: %v, want %v", c.name, k.term, k.a, k.b, e, k.want)
			}
			for _, v := range values {
				if !reflect.ValueOf(v).IsZero() {
					t.Errorf("%s of %v: %v with an error", c.name, k.term, v)
				}
			}
		}
	}
}

// P1.4

func TestClose(t *testing.T) {
	for _, c := range []struct {
		day  int
		want []int
	}{{0, []int{0, 2}}, {3, []int{2, 3}}, {13, []int{2, 13}}, {5, []int{2, 5}}} {
		y, e := Close(example(), c.day)
		if e != api.OK || !sameTerm(y, api.Term{Length: 14, Rest: []int{5, 6}, Closed: c.want}) {
			t.Error(c.day, y, e)
		}
	}
	full := api.Term{Length: 100, Closed: upTo(60)}
	for _, c := range []struct {
		term api.Term
		day  int
		want api.Errno
	}{
		{example(), 14, api.ErrArg},
		{example(), -1, api.ErrArg},
		{example(), math.MaxInt, api.ErrArg},
		{example(), 2, api.ErrState},
		{full, 100, api.ErrArg},
		{full, 59, api.ErrState},
		{full, 60, api.ErrLarge},
	} {
		if y, e := Close(c.term, c.day); e != c.want || !reflect.ValueOf(y).IsZero() {
			t.Error(c.term, c.day, y, e)
		}
	}
	if y, e := Close(api.Term{Length: 100, Closed: upTo(59)}, 99); e != api.OK || len(y.Closed) != 60 {
		t.Error(y, e)
	}
}

func TestReopen(t *testing.T) {
	x := api.Term{Length: 14, Rest: []int{5, 6}, Closed: []int{2, 5, 13}}
	for _, c := range []struct {
		day  int
		want []int
	}{{2, []int{5, 13}}, {5, []int{2, 13}}, {13, []int{2, 5}}} {
		y, e := Reopen(x, c.day)
		if e != api.OK || !sameTerm(y, api.Term{Length: 14, Rest: []int{5, 6}, Closed: c.want}) {
			t.Error(c.day, y, e)
		}
	}
	for day, want := range map[int]api.Errno{-1: api.ErrArg, 14: api.ErrArg, 0: api.ErrState, 6: api.ErrState} {
		if y, e := Reopen(x, day); e != want || !reflect.ValueOf(y).IsZero() {
			t.Error(day, y, e)
		}
	}
	if y, e := Reopen(api.Term{Length: 100, Closed: upTo(60)}, 59); e != api.OK || !slices.Equal(y.Closed, upTo(59)) {
		t.Error(y, e)
	}
}

// What is closed and opened again is as before, in memory of its own.
func TestCloseReopen(t *testing.T) {
	r := rand.New(rand.NewSource(4))
	for range 300 {
		x := someTerm(r)
		before := copyOf(x)
		day := r.Intn(x.Length)
		there, back := Close, Reopen
		if slices.Contains(x.Closed, day) {
			there, back = Reopen, Close
		}
		y, e := there(x, day)
		if e != api.OK || Validate(y) != api.OK {
			t.Fatal(x, day, y, e)
		}
		z, e := back(y, day)
		if e != api.OK || !sameTerm(z, before) {
			t.Fatal(x, day, z, e)
		}
		for _, l := range [][]int{y.Rest, y.Closed, z.Rest, z.Closed} {
			for i := range l {
				l[i] = -7
			}
			_ = append(l, -7)
		}
		if !sameTerm(x, before) {
			t.Fatal("memory is shared", before, day)
		}
	}
}

// An argument with room behind its end is not written there.
func TestCloseRoom(t *testing.T) {
	room := []int{2, 4, 6, 8}
	x := api.Term{Length: 14, Rest: room[2:2], Closed: room[:2]}
	for _, day := range []int{0, 3, 9} {
		if _, e := Close(x, day); e != api.OK {
			t.Error(day, e)
		}
	}
	if _, e := Reopen(x, 2); e != api.OK {
		t.Error(e)
	}
	if !slices.Equal(room, []int{2, 4, 6, 8}) {
		t.Error(room)
	}
}

// By Runs, closing a day changes the menu of no other day.
func TestCloseRuns(t *testing.T) {
	r := rand.New(rand.NewSource(5))
	for range 200 {
		x, c := someTerm(r), someCycle(r)
		c.Kind = api.Runs
		closed := r.Intn(x.Length)
		y, e := Close(x, closed)
		if e != api.OK {
			continue
		}
		for d := range x.Length {
			a, ea := Menu(x, c, d)
			b, eb := Menu(y, c, d)
			if d != closed && (a != b || ea != eb) {
				t.Fatal(x, c, closed, d, a, b)
			}
		}
	}
}

func TestTurn(t *testing.T) {
	for _, c := range []struct{ menus, first, by, want int }{
		{3, 1, 0, 1},
		{3, 1, 1, 2},
		{3, 1, 2, 0},
		{3, 1, -1, 0},
		{3, 1, -2, 2},
		{3, 1, -5, 2},
		{3, 2, 300, 2},
		{1, 0, 9, 0},
		{40, 39, math.MaxInt, 6}, // 2^63 - 1 is 7 modulo 40
		{40, 39, math.MinInt, 31},
		{3, 0, math.MinInt, 1},
	} {
		for _, kind := range []int{api.Waits, api.Runs} {
			y, e := Turn(api.Cycle{Menus: c.menus, First: c.first, Kind: kind}, c.by)
			if e != api.OK || y != (api.Cycle{Menus: c.menus, First: c.want, Kind: kind}) {
				t.Error(c, y, e)
			}
		}
	}
	if y, e := Turn(api.Cycle{Menus: 3, First: 3}, 1); e != api.ErrArg || y != (api.Cycle{}) {
		t.Error(y, e)
	}
}
