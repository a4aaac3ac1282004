package menu

import (
	"math"
	"reflect"
	"slices"
	"testing"

	"canteen/api"
)

// P3.3

// isApart reports whether two equal letters of a word always have at least days - 1 letters between them.
func isApart(word []int, days int) bool {
	for i := range word {
		for j := range i {
			if word[i] == word[j] && i-j-1 < days-1 {
				return false
			}
		}
	}
	return true
}

// times returns how often a letter comes in a word.
func times(word []int, letter int) int {
	n := 0
	for _, a := range word {
		if a == letter {
			n++
		}
	}
	return n
}

// follows reports whether a letter comes directly after another one in a word.
func follows(word []int, first, second int) bool {
	for i, a := range word {
		if i > 0 && word[i-1] == first && a == second {
			return true
		}
	}
	return false
}

// depth is a length up to which all words of so many letters are tried.
func depth(letters int) int {
	return []int{0, 24, 9, 7, 6, 5, 5}[letters]
}

func TestApart(t *testing.T) {
	states := [][]int{{1, 1, 3, 3}, {1, 1, 4, 5}, {1, 1, 5, 11}, {1, 1, 6, 18}, {1, 1, 7, 27}, {1, 1, 8, 38}}
	for letters := 1; letters <= 6; letters++ {
		for days := range 4 {
			m, e := Apart(letters, days)
			if e != api.OK || !checkSet(m, letters, depth(letters), func(w []int) bool { return isApart(w, days) }) {
				t.Error(letters, days, m, e)
			}
			if len(m.Next) != states[letters-1][days] {
				t.Error(letters, days, len(m.Next))
			}
		}
	}
	for _, c := range [][2]int{{0, 1}, {7, 1}, {-1, 1}, {2, -1}, {2, 4}, {math.MaxInt, 2}, {math.MinInt, 2}, {2, math.MaxInt}, {2, math.MinInt}} {
		if m, e := Apart(c[0], c[1]); !reflect.ValueOf(m).IsZero() || e != api.ErrArg {
			t.Error(c, m, e)
		}
	}
}

func TestLeastAndMost(t *testing.T) {
	for letters := 1; letters <= 6; letters++ {
		for letter := range letters {
			for n := range 21 {
				m, e := Least(letters, letter, n)
				if e != api.OK || len(m.Next) != n+1 {
					t.Fatal(letters, letter, n, m, e)
				}
				o, e := Most(letters, letter, n)
				if e != api.OK || len(o.Next) != n+2 {
					t.Fatal(letters, letter, n, o, e)
				}
				// Of many letters short words are tried, so few times are.
				if n >= 4 && letters > 1 {
					continue
				}
				if !checkSet(m, letters, depth(letters), func(w []int) bool { return times(w, letter) >= n }) {
					t.Error(letters, letter, n, m)
				}
				if !checkSet(o, letters, depth(letters), func(w []int) bool { return times(w, letter) <= n }) {
					t.Error(letters, letter, n, o)
				}
			}
		}
	}
	for _, c := range [][3]int{
		{0, 0, 1}, {7, 0, 1}, {-1, -2, 1}, {3, 3, 1}, {3, -1, 1}, {3, 0, -1}, {3, 0, 21}, {math.MaxInt, 0, 1}, {math.MinInt, 0, 1}, {3, math.MaxInt, 1}, {3, math.MinInt, 1}, {3, 0, math.MaxInt}, {3, 0, math.MinInt},
	} {
		if m, e := Least(c[0], c[1], c[2]); !reflect.ValueOf(m).IsZero() || e != api.ErrArg {
			t.Error(c, m, e)
		}
		if m, e := Most(c[0], c[1], c[2]); !reflect.ValueOf(m).IsZero() || e != api.ErrArg {
			t.Error(c, m, e)
		}
	}
}

// Many times of a letter among others: longer words than can all be tried.
func TestManyTimes(t *testing.T) {
	least, most := good(t)(Least(3, 1, 20)), good(t)(Most(3, 1, 19))
	word := slices.Repeat([]int{1, 0, 2, 1, 2}, 10)
	for n := range len(word) + 1 {
		is := times(word[:n], 1) >= 20
		if reads(least, word[:n]) != is || reads(most, word[:n]) == is {
			t.Error(n)
		}
	}
}

func TestNever(t *testing.T) {
	for letters := 1; letters <= 6; letters++ {
		for first := range letters {
			for second := range letters {
				m, e := Never(letters, first, second)
				if e != api.OK || len(m.Next) != 3 || !checkSet(m, letters, depth(letters), func(w []int) bool { return !follows(w, first, second) }) {
					t.Error(letters, first, second, m, e)
				}
			}
		}
	}
	for _, c := range [][3]int{
		{0, 0, 0}, {7, 0, 0}, {-1, -2, -2}, {3, 3, 1}, {3, -1, 1}, {3, 0, -1}, {3, 0, 3}, {math.MaxInt, 0, 1}, {math.MinInt, 0, 1}, {3, math.MaxInt, 1}, {3, math.MinInt, 1}, {3, 0, math.MaxInt}, {3, 0, math.MinInt},
	} {
		if m, e := Never(c[0], c[1], c[2]); !reflect.ValueOf(m).IsZero() || e != api.ErrArg {
			t.Error(c, m, e)
		}
	}
}

// The examples of the chapter.
func TestExamples(t *testing.T) {
	m := good(t)(Apart(2, 2))
	want := api.Machine{Letters: 2, Next: [][]int{{1, 2}, {3, 2}, {1, 3}, {3, 3}}, Accept: []bool{true, true, true, false}}
	if !same(m, want) || !reads(m, []int{0, 1, 0}) || reads(m, []int{0, 0}) {
		t.Error(m)
	}
	m = good(t)(Apart(3, 2))
	if n, e := Count(m, 3); n != 12 || e != api.OK {
		t.Error(n, e)
	}
	if n, e := Rank(m, []int{0, 2, 0}); n != 2 || e != api.OK {
		t.Error(n, e)
	}
	if n, e := Rank(m, []int{0, 1, 0}); n != 0 || e != api.OK {
		t.Error(n, e)
	}
}
