package van

import (
	"math/rand"
	"slices"
	"testing"

	"canteen/api"
)

// leastWay returns the smallest sum of ways from a place to another one, of all paths that come to no place twice.
func leastWay(ways [][]int, from, to int) int {
	least := ways[from][to]
	seen := make([]bool, len(ways))
	var walk func(place, sum int)
	walk = func(place, sum int) {
		if place == to {
			least = min(least, sum)
			return
		}
		seen[place] = true
		for next := range ways {
			if !seen[next] {
				walk(next, sum+ways[place][next])
			}
		}
		seen[place] = false
	}
	walk(from, 0)
	return least
}

// P8.4: Direct by its definition; IsDirect reports whether it changes nothing, which it does not a second time.
func TestDirect(t *testing.T) {
	same, other := 0, 0
	forWays(func(ways [][]int) {
		want := square(len(ways))
		for from := range ways {
			for to := range ways {
				want[from][to] = leastWay(ways, from, to)
			}
		}
		direct, e := Direct(ways)
		if e != api.OK || !slices.EqualFunc(direct, want, slices.Equal) {
			t.Fatalf("Direct of %v: %v, %v, want %v", ways, direct, e, want)
		}
		is, e := IsDirect(ways)
		if e != api.OK || is != slices.EqualFunc(ways, want, slices.Equal) {
			t.Fatalf("IsDirect of %v: %v, %v, but Direct is %v", ways, is, e, want)
		}
		if is {
			same++
		} else {
			other++
		}
		again, e := Direct(direct)
		is, f := IsDirect(direct)
		if e != api.OK || f != api.OK || !is || !slices.EqualFunc(again, direct, slices.Equal) {
			t.Fatalf("Direct of %v, which is direct: %v, %v, %v, %v", direct, again, e, is, f)
		}
	})
	if same < 100 || other < 100 {
		t.Errorf("%d are direct, %d are not", same, other)
	}
}

// P8.4: Direct of ways that are known, also where the detour comes over many places.
func TestDirectExamples(t *testing.T) {
	far := onLine(0, 1, 2, 3, 4, 5, 6)
	want := onLine(0, 1, 2, 3, 4, 5, 6)
	for i := range far {
		for j := range far {
			if want[i][j] > 1 {
				far[i][j] = 1000
			}
		}
	}
	for _, c := range []struct {
		ways, want [][]int
		is         bool
	}{
		{square(1), square(1), true},
		{onLine(0, 1000), onLine(0, 1000), true},
		{three(), three(), true},
		{[][]int{{0, 9, 2}, {9, 0, 3}, {2, 3, 0}}, [][]int{{0, 5, 2}, {5, 0, 3}, {2, 3, 0}}, false},
		{[][]int{{0, 5, 2}, {5, 0, 3}, {2, 3, 0}}, [][]int{{0, 5, 2}, {5, 0, 3}, {2, 3, 0}}, true},
		{[][]int{{0, 6, 2}, {6, 0, 3}, {2, 3, 0}}, [][]int{{0, 5, 2}, {5, 0, 3}, {2, 3, 0}}, false},
		{far, want, false},
		{want, want, true},
	} {
		direct, e := Direct(c.ways)
		is, f := IsDirect(c.ways)
		if !slices.EqualFunc(direct, c.want, slices.Equal) || is != c.is || e != api.OK || f != api.OK {
			t.Errorf("Direct of %v: %v, %v, IsDirect %v, %v", c.ways, direct, e, is, f)
		}
	}
}

// P8.4: with direct ways, a tour that leaves out a stop is never longer.
func TestDirectTours(t *testing.T) {
	r := rand.New(rand.NewSource(100))
	forWays(func(ways [][]int) {
		direct, _ := Direct(ways)
		tour := someTour(r, len(ways))
		n, _ := Length(direct, tour)
		for i := range tour {
			if m, _ := Length(direct, slices.Delete(slices.Clone(tour), i, i+1)); m > n {
				t.Fatalf("%v by %v has the length %d, without the stop %d %d", tour, direct, n, tour[i], m)
			}
		}
	})
}
