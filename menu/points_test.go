package menu

import (
	"math"
	"math/rand"
	"slices"
	"testing"

	"canteen/api"
)

// P3.6

// sumOf returns the points of a word.
func sumOf(word, points []int) int {
	sum := 0
	for _, a := range word {
		sum += points[a]
	}
	return sum
}

// somePoints returns points for so many letters, each of at most most.
func somePoints(r *rand.Rand, letters, most int) []int {
	points := make([]int, letters)
	for a := range points {
		points[a] = r.Intn(most + 1)
	}
	return points
}

func TestManyPoints(t *testing.T) {
	r := rand.New(rand.NewSource(61))
	ties, none := 0, 0
	for i := range 300 {
		letters := 1 + i%6
		m := someMachine(r, letters, 6)
		points := somePoints(r, letters, []int{3, 20}[i%2])
		for n := range min(depth(letters), 5) {
			words := accepted(m, n)
			counts := map[int]int{}
			var first []int
			for _, w := range words {
				counts[sumOf(w, points)]++
				if first == nil || sumOf(w, points) < sumOf(first, points) {
					first = w
				}
			}
			sum := 0
			for total := -1; total <= n*20+1; total++ {
				count, e := CountPoints(m, n, points, total)
				if count != counts[total] || e != api.OK {
					t.Fatal(m, n, points, total, count, e, counts)
				}
				sum += count
			}
			if sum != len(words) {
				t.Fatal(m, n, points, sum)
			}
			w, least, found, e := Cheapest(m, n, points)
			if !slices.Equal(w, first) || least != sumOf(first, points) || found != (len(words) > 0) || e != api.OK {
				t.Fatal(m, n, points, w, least, found, e, first)
			}
			if !found {
				none++
			} else if n > 0 && counts[least] > 1 {
				ties++
			}
		}
	}
	if ties < 100 || none < 20 {
		t.Error("the machines are too much alike", ties, none)
	}
}

func TestPoints(t *testing.T) {
	m := good(t)(Apart(3, 2))
	if n, e := CountPoints(m, 3, []int{1, 2, 5}, 8); n != 6 || e != api.OK {
		t.Error(n, e)
	}
	dear := slices.Repeat([]int{20}, 6)
	for _, c := range []struct {
		m        api.Machine
		n        int
		points   []int
		total    int
		want     int
		cheapest []int
	}{
		{all(6), 20, dear, 400, 3656158440062976, make([]int, 20)},
		{all(6), 20, make([]int, 6), 0, 3656158440062976, make([]int, 20)},
		{all(6), 20, dear, 399, 0, make([]int, 20)},
		{all(6), 20, dear, 401, 0, make([]int, 20)},
		{all(6), 0, dear, 0, 1, nil},
		{all(6), 0, dear, 1, 0, nil},
		{all(2), 20, []int{20, 0}, 200, 184756, slices.Repeat([]int{1}, 20)},
		{all(2), 20, []int{20, 0}, 400, 1, slices.Repeat([]int{1}, 20)},
		{all(2), 20, []int{20, 0}, -1, 0, slices.Repeat([]int{1}, 20)},
		{all(2), 20, []int{20, 0}, math.MaxInt, 0, slices.Repeat([]int{1}, 20)},
		{all(2), 20, []int{20, 0}, math.MinInt, 0, slices.Repeat([]int{1}, 20)},
		{good(t)(Least(2, 0, 20)), 20, []int{20, 0}, 400, 1, make([]int, 20)},
	} {
		if n, e := CountPoints(c.m, c.n, c.points, c.total); n != c.want || e != api.OK {
			t.Error(c, n, e)
		}
		w, n, found, e := Cheapest(c.m, c.n, c.points)
		if !slices.Equal(w, c.cheapest) || n != sumOf(c.cheapest, c.points) || !found || e != api.OK {
			t.Error(c, w, n, found, e)
		}
	}
	// No word of this length is accepted.
	for _, c := range []struct {
		m api.Machine
		n int
	}{{good(t)(Least(3, 0, 4)), 3}, {good(t)(Not(all(3))), 20}, {good(t)(Not(all(3))), 0}} {
		if w, n, found, e := Cheapest(c.m, c.n, []int{0, 1, 2}); w != nil || n != 0 || found || e != api.OK {
			t.Error(c, w, n, found, e)
		}
	}
}

// Points that are not those of the letters are refused, after the machine's own errors, and stay as they are.
func TestWrongPoints(t *testing.T) {
	for _, c := range []struct {
		m      api.Machine
		points []int
		want   api.Errno
	}{
		{all(3), nil, api.ErrArg},
		{all(3), []int{1, 2}, api.ErrArg},
		{all(3), []int{1, 2, 3, 4}, api.ErrArg},
		{all(3), []int{1, 2, 21}, api.ErrArg},
		{all(3), []int{-1, 2, 3}, api.ErrArg},
		{all(3), []int{1, math.MaxInt, 3}, api.ErrArg},
		{all(3), []int{1, math.MinInt, 3}, api.ErrArg},
		{ring(65), nil, api.ErrLarge},
		{all(3), []int{0, 20, 0}, api.OK},
	} {
		before := slices.Clone(c.points)
		n, e := CountPoints(c.m, 2, c.points, 40)
		w, least, found, f := Cheapest(c.m, 2, c.points)
		if e != c.want || f != c.want || n != 0 && e != api.OK || !slices.Equal(c.points, before) {
			t.Error(c, n, e, f)
		}
		if f != api.OK && (w != nil || least != 0 || found) {
			t.Error(c, w, least, found)
		}
	}
}
