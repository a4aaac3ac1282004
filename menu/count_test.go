package menu

import (
	"math"
	"math/rand"
	"slices"
	"testing"

	"canteen/api"
)

// P3.4 and S2

// accepted returns the accepted words of a length in ascending order.
func accepted(m api.Machine, n int) [][]int {
	var l [][]int
	for _, w := range wordsOf(m.Letters, n) {
		if reads(m, w) {
			l = append(l, w)
		}
	}
	return l
}

func TestCount(t *testing.T) {
	for i, c := range []struct {
		m       api.Machine
		n, want int
	}{
		{all(6), 20, 3656158440062976},
		{all(6), 0, 1},
		{all(1), 20, 1},
		{ring(3, 1), 0, 0},
		{ring(3, 1), 19, 1},
		{ring(3, 1), 20, 0},
		{good(t)(Apart(6, 2)), 20, 6 * 19073486328125},
		{good(t)(Apart(6, 3)), 20, 6 * 5 * 68719476736},
		{good(t)(Least(2, 0, 20)), 20, 1},
		{good(t)(Most(2, 0, 19)), 20, 1<<20 - 1},
		{good(t)(Not(all(4))), 20, 0},
	} {
		if n, e := Count(c.m, c.n); n != c.want || e != api.OK {
			t.Errorf("%d: %v %v", i, n, e)
		}
	}
}

// The accepted words of a length are numbered without gaps: each number is the rank of exactly one.
func TestNumbers(t *testing.T) {
	r := rand.New(rand.NewSource(41))
	many, none := 0, 0
	for i := range 300 {
		letters := 1 + i%6
		m := someMachine(r, letters, 6)
		for n := range min(depth(letters), 5) {
			words := accepted(m, n)
			if count, e := Count(m, n); count != len(words) || e != api.OK {
				t.Fatal(m, n, count, e)
			}
			for rank, w := range words {
				if got, e := Rank(m, w); got != rank || e != api.OK {
					t.Fatal(m, w, got, e, rank)
				}
				if got, e := Unrank(m, n, rank); !slices.Equal(got, w) || e != api.OK {
					t.Fatal(m, n, rank, got, e, w)
				}
			}
			for _, w := range wordsOf(letters, n) {
				if got, e := Rank(m, w); !reads(m, w) && (got != 0 || e != api.ErrRule) {
					t.Fatal(m, w, got, e)
				}
			}
			for _, rank := range []int{len(words), len(words) + 1, math.MaxInt, -1, math.MinInt} {
				if got, e := Unrank(m, n, rank); got != nil || e != api.ErrNone {
					t.Fatal(m, n, rank, got, e)
				}
			}
			if len(words) > 20 {
				many++
			}
			if len(words) == 0 {
				none++
			}
		}
	}
	if many < 100 || none < 20 {
		t.Error("the machines are too much alike", many, none)
	}
}

// Ranks of long words: the first and the last one, and some between.
func TestLongWords(t *testing.T) {
	for _, m := range []api.Machine{all(6), good(t)(Apart(6, 3)), good(t)(Apart(4, 2)), good(t)(Least(6, 3, 7)), good(t)(Never(5, 2, 1))} {
		count, e := Count(m, 20)
		if e != api.OK {
			t.Fatal(e)
		}
		r := rand.New(rand.NewSource(42))
		ranks := []int{0, 1, count - 2, count - 1}
		for range 50 {
			ranks = append(ranks, r.Intn(count))
		}
		slices.Sort(ranks)
		var before []int
		for _, rank := range ranks {
			w, e := Unrank(m, 20, rank)
			got, f := Rank(m, w)
			if e != api.OK || f != api.OK || got != rank || !reads(m, w) || slices.Compare(before, w) > 0 {
				t.Fatal(m, rank, w, got, e, f)
			}
			before = w
		}
		if w, e := Unrank(m, 20, count); w != nil || e != api.ErrNone {
			t.Error(w, e)
		}
	}
	if w, e := Unrank(all(6), 20, 3656158440062975); !slices.Equal(w, slices.Repeat([]int{5}, 20)) || e != api.OK {
		t.Error(w, e)
	}
}

// Counts of Both and Either add up to the sum of both counts.
func TestCountsAddUp(t *testing.T) {
	r := rand.New(rand.NewSource(43))
	for range 100 {
		a, b := someMachine(r, 3, 7), someMachine(r, 3, 7)
		both, either := good(t)(Both(a, b)), good(t)(Either(a, b))
		for n := range 21 {
			var sum int
			for i, m := range []api.Machine{a, b, both, either} {
				count, e := Count(m, n)
				if e != api.OK {
					t.Fatal(e)
				}
				sum += []int{1, 1, -1, -1}[i] * count
			}
			if sum != 0 {
				t.Fatal(a, b, n, sum)
			}
		}
	}
}
