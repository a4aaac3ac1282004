package term

import (
	"math"
	"math/rand"
	"slices"
	"testing"

	"canteen/api"
)

// isWeekDay and isSchoolDay are the chapter's terms, word for word.
func isWeekDay(t api.Term, d int) bool {
	return d >= 0 && d < t.Length && !slices.Contains(t.Rest, d%7)
}

func isSchoolDay(t api.Term, d int) bool {
	return isWeekDay(t, d) && !slices.Contains(t.Closed, d)
}

// schoolDaysFrom returns the school days from from to to - 1.
func schoolDaysFrom(t api.Term, from, to int) []int {
	var l []int
	for d := from; d < to; d++ {
		if isSchoolDay(t, d) {
			l = append(l, d)
		}
	}
	return l
}

// menuOf is the menu of a school day, by counting the days before it.
func menuOf(t api.Term, c api.Cycle, d int) int {
	n := c.First
	for before := range d {
		if c.Kind == api.Waits && isSchoolDay(t, before) || c.Kind == api.Runs && isWeekDay(t, before) {
			n++
		}
	}
	return n % c.Menus
}

// P1.2

func TestIsOpen(t *testing.T) {
	for d := range 14 {
		want := slices.Contains([]int{0, 1, 3, 4, 7, 8, 9, 10, 11}, d)
		if is, e := IsOpen(example(), d); is != want || e != api.OK {
			t.Error(d, is, e)
		}
	}
	for _, d := range []int{-1, 14, math.MaxInt, math.MinInt} {
		if is, e := IsOpen(example(), d); is || e != api.ErrArg {
			t.Error(d, is, e)
		}
	}
}

func TestCount(t *testing.T) {
	for _, c := range []struct{ from, to, want int }{{0, 14, 9}, {0, 0, 0}, {14, 14, 0}, {2, 3, 0}, {3, 5, 2}, {4, 8, 2}, {5, 7, 0}} {
		if n, e := Count(example(), c.from, c.to); n != c.want || e != api.OK {
			t.Error(c, n, e)
		}
	}
	for _, c := range [][2]int{{-1, 3}, {3, 2}, {0, 15}, {15, 15}, {math.MinInt, math.MaxInt}, {5, -1}} {
		if n, e := Count(example(), c[0], c[1]); n != 0 || e != api.ErrArg {
			t.Error(c, n, e)
		}
	}
}

func TestNth(t *testing.T) {
	for n, want := range []int{0, 1, 3, 4, 7, 8, 9, 10, 11} {
		if d, e := Nth(example(), n); d != want || e != api.OK {
			t.Error(n, d, e)
		}
	}
	for _, n := range []int{-1, 9, 14, math.MinInt, math.MaxInt} {
		if d, e := Nth(example(), n); d != 0 || e != api.ErrNone {
			t.Error(n, d, e)
		}
	}
	if d, e := Nth(api.Term{Length: 2, Closed: []int{0, 1}}, 0); d != 0 || e != api.ErrNone {
		t.Error(d, e)
	}
}

func TestNext(t *testing.T) {
	for day, want := range []int{0, 1, 3, 3, 4, 7, 7, 7, 8, 9, 10, 11} {
		if d, e := Next(example(), day); d != want || e != api.OK {
			t.Error(day, d, e)
		}
	}
	for day, want := range map[int]api.Errno{12: api.ErrNone, 13: api.ErrNone, 14: api.ErrArg, -1: api.ErrArg, math.MaxInt: api.ErrArg} {
		if d, e := Next(example(), day); d != 0 || e != want {
			t.Error(day, d, e)
		}
	}
}

func TestSchoolDays(t *testing.T) {
	r := rand.New(rand.NewSource(2))
	for range 200 {
		x := someTerm(r)
		all := schoolDaysFrom(x, 0, x.Length)
		for d := range x.Length {
			if is, e := IsOpen(x, d); is != isSchoolDay(x, d) || e != api.OK {
				t.Fatal(x, d, is, e)
			}
			later := schoolDaysFrom(x, d, x.Length)
			next, e := Next(x, d)
			if len(later) > 0 && (next != later[0] || e != api.OK) || len(later) == 0 && (next != 0 || e != api.ErrNone) {
				t.Fatal(x, d, next, e)
			}
			to := d + r.Intn(x.Length-d+1)
			if n, e := Count(x, d, to); n != len(schoolDaysFrom(x, d, to)) || e != api.OK {
				t.Fatal(x, d, to, n, e)
			}
		}
		for n := range x.Length + 1 {
			d, e := Nth(x, n)
			if n < len(all) && (d != all[n] || e != api.OK) || n >= len(all) && (d != 0 || e != api.ErrNone) {
				t.Fatal(x, n, d, e)
			}
		}
	}
}

func TestLongTerm(t *testing.T) {
	x := api.Term{Length: 1000, Rest: []int{5, 6}, Closed: upTo(60)}
	want := len(schoolDaysFrom(x, 0, 1000))
	if n, e := Count(x, 0, 1000); n != want || e != api.OK {
		t.Error(n, want, e)
	}
	if d, e := Nth(x, want-1); d != 998 || e != api.OK {
		t.Error(d, e)
	}
	if d, e := Next(x, 0); d != 60 || e != api.OK {
		t.Error(d, e)
	}
}

// P1.3

func TestMenu(t *testing.T) {
	days := []int{0, 1, 3, 4, 7, 8, 9, 10, 11}
	for _, c := range []struct {
		cycle api.Cycle
		want  []int
	}{
		{api.Cycle{Menus: 3, Kind: api.Waits}, []int{0, 1, 2, 0, 1, 2, 0, 1, 2}},
		{api.Cycle{Menus: 3, Kind: api.Runs}, []int{0, 1, 0, 1, 2, 0, 1, 2, 0}},
		{api.Cycle{Menus: 3, First: 2, Kind: api.Waits}, []int{2, 0, 1, 2, 0, 1, 2, 0, 1}},
		{api.Cycle{Menus: 3, First: 2, Kind: api.Runs}, []int{2, 0, 2, 0, 1, 2, 0, 1, 2}},
		{api.Cycle{Menus: 1, Kind: api.Runs}, make([]int, 9)},
	} {
		for i, d := range days {
			if m, e := Menu(example(), c.cycle, d); m != c.want[i] || e != api.OK {
				t.Error(c.cycle, d, m, e)
			}
		}
		for d, want := range map[int]api.Errno{2: api.ErrClosed, 5: api.ErrClosed, 13: api.ErrClosed, -1: api.ErrArg, 14: api.ErrArg, math.MinInt: api.ErrArg} {
			if m, e := Menu(example(), c.cycle, d); m != 0 || e != want {
				t.Error(c.cycle, d, m, e)
			}
		}
	}
}

func TestDaysOfMenu(t *testing.T) {
	waits := api.Cycle{Menus: 3}
	for menu, want := range [][]int{{0, 4, 9}, {1, 7, 10}, {3, 8, 11}} {
		if l, e := Days(example(), waits, menu); !slices.Equal(l, want) || e != api.OK {
			t.Error(menu, l, e)
		}
	}
	for _, menu := range []int{-1, 3, math.MaxInt} {
		if l, e := Days(example(), waits, menu); len(l) != 0 || e != api.ErrArg {
			t.Error(menu, l, e)
		}
	}
	if l, e := Days(api.Term{Length: 2}, waits, 2); len(l) != 0 || e != api.OK {
		t.Error(l, e)
	}
}

func TestServed(t *testing.T) {
	for _, c := range []struct {
		cycle api.Cycle
		want  []int
	}{
		{api.Cycle{Menus: 3, Kind: api.Waits}, []int{3, 3, 3}},
		{api.Cycle{Menus: 3, Kind: api.Runs}, []int{4, 3, 2}},
		{api.Cycle{Menus: 11, First: 10, Kind: api.Waits}, []int{1, 1, 1, 1, 1, 1, 1, 1, 0, 0, 1}},
	} {
		if l, e := Served(example(), c.cycle); !slices.Equal(l, c.want) || e != api.OK {
			t.Error(c.cycle, l, e)
		}
	}
	if l, e := Served(api.Term{Length: 1, Closed: []int{0}}, api.Cycle{Menus: 2}); !slices.Equal(l, []int{0, 0}) || e != api.OK {
		t.Error(l, e)
	}
}

func TestLost(t *testing.T) {
	x := api.Term{Length: 14, Rest: []int{5, 6}, Closed: []int{2, 5, 8, 13}}
	if n, e := Lost(x, api.Cycle{Menus: 3, Kind: api.Runs}); n != 2 || e != api.OK {
		t.Error(n, e)
	}
	if n, e := Lost(x, api.Cycle{Menus: 3, Kind: api.Waits}); n != 0 || e != api.OK {
		t.Error(n, e)
	}
	if n, e := Lost(x, api.Cycle{Menus: 3, Kind: 2}); n != 0 || e != api.ErrArg {
		t.Error(n, e)
	}
}

func TestMenusOfTerms(t *testing.T) {
	r := rand.New(rand.NewSource(3))
	for range 300 {
		x, c := someTerm(r), someCycle(r)
		days, served, lost := make([][]int, c.Menus), make([]int, c.Menus), 0
		for d := range x.Length {
			m, e := Menu(x, c, d)
			if !isSchoolDay(x, d) {
				if m != 0 || e != api.ErrClosed {
					t.Fatal(x, c, d, m, e)
				}
				if c.Kind == api.Runs && isWeekDay(x, d) {
					lost++
				}
				continue
			}
			if m != menuOf(x, c, d) || e != api.OK {
				t.Fatal(x, c, d, m, e)
			}
			days[m] = append(days[m], d)
			served[m]++
		}
		for m := range c.Menus {
			if l, e := Days(x, c, m); !slices.Equal(l, days[m]) || e != api.OK {
				t.Fatal(x, c, m, l, e)
			}
		}
		if l, e := Served(x, c); !slices.Equal(l, served) || e != api.OK {
			t.Fatal(x, c, l, e)
		}
		if n, e := Lost(x, c); n != lost || e != api.OK {
			t.Fatal(x, c, n, e)
		}
		if c.Kind == api.Waits && slices.Max(served)-slices.Min(served) > 1 {
			t.Fatal(x, c, served)
		}
	}
}

// P1.6

func TestTogether(t *testing.T) {
	waits, runs := api.Cycle{Menus: 3}, api.Cycle{Menus: 3, Kind: api.Runs}
	for _, c := range []struct {
		a, b      api.Cycle
		x, y, day int
		found     bool
	}{
		{waits, runs, 2, 0, 3, true},
		{waits, runs, 0, 2, 0, false},
		{waits, runs, 0, 0, 0, true},
		{runs, waits, 0, 2, 3, true},
		{waits, waits, 1, 1, 1, true},
		{waits, waits, 1, 2, 0, false},
		{waits, api.Cycle{Menus: 2}, 2, 1, 8, true},
	} {
		if d, found, e := Together(example(), c.a, c.b, c.x, c.y); d != c.day || found != c.found || e != api.OK {
			t.Error(c, d, found, e)
		}
	}
	for _, c := range [][2]int{{-1, 0}, {0, -1}, {3, 0}, {0, 2}, {math.MaxInt, math.MinInt}} {
		if d, found, e := Together(example(), waits, api.Cycle{Menus: 2}, c[0], c[1]); d != 0 || found || e != api.ErrArg {
			t.Error(c, d, found, e)
		}
	}
}

func TestTogetherOfTerms(t *testing.T) {
	r := rand.New(rand.NewSource(6))
	for range 300 {
		x, a, b := someTerm(r), someCycle(r), someCycle(r)
		for m := range a.Menus {
			for n := range b.Menus {
				day, found := 0, false
				for d := x.Length - 1; d >= 0; d-- {
					if isSchoolDay(x, d) && menuOf(x, a, d) == m && menuOf(x, b, d) == n {
						day, found = d, true
					}
				}
				if d, ok, e := Together(x, a, b, m, n); d != day || ok != found || e != api.OK {
					t.Fatal(x, a, b, m, n, d, ok, e)
				}
			}
		}
	}
}
