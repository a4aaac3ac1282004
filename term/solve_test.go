package term

import (
	"math"
	"math/rand"
	"slices"
	"testing"

	"canteen/api"
)

// P1.5

func TestSolve(t *testing.T) {
	// 2^63 - 1 is 7 modulo 10 and 1 modulo 3; -2^63 is 2 modulo 10 and 1 modulo 3.
	for i, c := range []struct {
		l              []api.Line
		least, modulus int
		found          bool
	}{
		{nil, 0, 1, true},
		{[]api.Line{}, 0, 1, true},
		{[]api.Line{{Rest: 5, Modulus: 1}}, 0, 1, true},
		{[]api.Line{{Rest: 9, Modulus: 7}}, 2, 7, true},
		{[]api.Line{{Rest: 2, Modulus: 3}, {Rest: 3, Modulus: 5}}, 8, 15, true},
		{[]api.Line{{Rest: 3, Modulus: 5}, {Rest: 2, Modulus: 3}}, 8, 15, true},
		{[]api.Line{{Rest: 1, Modulus: 4}, {Rest: 2, Modulus: 6}}, 0, 0, false},
		{[]api.Line{{Rest: 1, Modulus: 4}, {Rest: 3, Modulus: 6}}, 9, 12, true},
		{[]api.Line{{Rest: -1, Modulus: 4}, {Rest: 9, Modulus: 6}}, 3, 12, true},
		{[]api.Line{{Rest: 0, Modulus: 6}, {Rest: 6, Modulus: 6}}, 0, 6, true},
		{[]api.Line{{Rest: 0, Modulus: 6}, {Rest: 1, Modulus: 6}}, 0, 0, false},
		{[]api.Line{{Rest: math.MaxInt, Modulus: 10}, {Rest: math.MinInt, Modulus: 3}}, 7, 30, true},
		{[]api.Line{{Rest: math.MinInt, Modulus: 10}, {Rest: math.MaxInt, Modulus: 3}}, 22, 30, true},
		{[]api.Line{{Modulus: 100000}, {Rest: 1, Modulus: 99999}}, 100000, 9999900000, true},
		{[]api.Line{{Rest: -1, Modulus: 100000}, {Rest: -1, Modulus: 99999}}, 9999899999, 9999900000, true},
		{[]api.Line{{Rest: 1, Modulus: 2}, {Rest: 2, Modulus: 3}, {Rest: 4, Modulus: 5}, {Rest: 6, Modulus: 7}, {Rest: 10, Modulus: 11}, {Rest: 12, Modulus: 13}}, 30029, 30030, true},
	} {
		least, modulus, found, e := Solve(c.l)
		if least != c.least || modulus != c.modulus || found != c.found || e != api.OK {
			t.Errorf("%d: %d %d %t %v", i, least, modulus, found, e)
		}
	}
}

func TestSolveErrors(t *testing.T) {
	// 2^40 - 1 is 61681 * 14025 * 1271; 2^40 + 16 is the next number above 2^40 that such moduli have.
	below := []api.Line{{Rest: -1, Modulus: 61681}, {Rest: -1, Modulus: 14025}, {Rest: -1, Modulus: 1271}}
	above := []api.Line{{Modulus: 16}, {Modulus: 17}, {Modulus: 241}, {Modulus: 433}, {Modulus: 38737}}
	if least, modulus, found, e := Solve(below); least != 1<<40-2 || modulus != 1<<40-1 || !found || e != api.OK {
		t.Error(least, modulus, found, e)
	}
	six := []api.Line{{Modulus: 99991}, {Modulus: 99989}, {Modulus: 99971}, {Modulus: 99961}, {Modulus: 99929}, {Modulus: 99923}}
	for i, c := range []struct {
		l    []api.Line
		want api.Errno
	}{
		{slices.Repeat([]api.Line{{Modulus: 2}}, 7), api.ErrLarge},
		{make([]api.Line, 7), api.ErrLarge},
		{[]api.Line{{Modulus: 0}}, api.ErrArg},
		{[]api.Line{{Modulus: -3}}, api.ErrArg},
		{[]api.Line{{Modulus: 100001}}, api.ErrArg},
		{[]api.Line{{Modulus: math.MinInt}}, api.ErrArg},
		{[]api.Line{{Rest: 1, Modulus: 4}, {Rest: 2, Modulus: 6}, {Modulus: 0}}, api.ErrArg},
		{append(slices.Clone(above), api.Line{}), api.ErrArg},
		{above, api.ErrLarge},
		{six, api.ErrLarge},
		{six[:3], api.ErrLarge},
		{[]api.Line{{Rest: 0, Modulus: 99991}, {Rest: 1, Modulus: 99991}, {Modulus: 99989}, {Modulus: 99971}}, api.ErrLarge},
	} {
		least, modulus, found, e := Solve(c.l)
		if least != 0 || modulus != 0 || found || e != c.want {
			t.Errorf("%d: %d %d %t %v", i, least, modulus, found, e)
		}
	}
	if _, modulus, found, e := Solve(slices.Repeat([]api.Line{{Rest: 3, Modulus: 99991}}, 6)); modulus != 99991 || !found || e != api.OK {
		t.Error(modulus, found, e)
	}
}

// leastMultiple returns the least common multiple of the moduli, by trying.
func leastMultiple(l []api.Line) int {
	for m := 1; ; m++ {
		if !slices.ContainsFunc(l, func(line api.Line) bool { return m%line.Modulus != 0 }) {
			return m
		}
	}
}

func TestSolveByTrying(t *testing.T) {
	r := rand.New(rand.NewSource(5))
	for range 3000 {
		l := make([]api.Line, r.Intn(5))
		for i := range l {
			l[i] = api.Line{Rest: r.Intn(60) - 30, Modulus: 1 + r.Intn(12)}
		}
		before := slices.Clone(l)
		wantModulus := leastMultiple(l)
		want, wantFound := 0, false
		for n := wantModulus - 1; n >= 0; n-- {
			if !slices.ContainsFunc(l, func(line api.Line) bool { return (n-line.Rest)%line.Modulus != 0 }) {
				want, wantFound = n, true
			}
		}
		if !wantFound {
			wantModulus = 0
		}
		least, modulus, found, e := Solve(l)
		if least != want || modulus != wantModulus || found != wantFound || e != api.OK || !slices.Equal(l, before) {
			t.Fatal(before, least, modulus, found, e)
		}
	}
}

// With large moduli, a number that is known to have all remainders is found again.
func TestSolveLarge(t *testing.T) {
	r := rand.New(rand.NewSource(7))
	for range 3000 {
		number := r.Intn(1 << 40)
		l := make([]api.Line, 2+r.Intn(2))
		for i := range l {
			modulus := 1 + r.Intn(10000)
			l[i] = api.Line{Rest: number%modulus - r.Intn(3)*modulus, Modulus: modulus}
		}
		least, modulus, found, e := Solve(l)
		if e != api.OK || !found || least != number%modulus {
			t.Fatal(l, number, least, modulus, found, e)
		}
		for _, line := range l {
			if modulus%line.Modulus != 0 {
				t.Fatal(l, modulus)
			}
		}
	}
}
