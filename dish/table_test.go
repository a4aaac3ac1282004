package dish

import (
	"math"
	"math/rand"
	"slices"
	"testing"

	"canteen/api"
)

// someTable returns a valid table of at most so many children and dishes.
func someTable(r *rand.Rand, children, dishes int) ([]int, int) {
	dishes = r.Intn(dishes + 1)
	var rows []int
	for range r.Intn(children + 1) {
		rows = append(rows, r.Intn(1<<dishes))
	}
	return rows, dishes
}

// eats reports whether a child can eat a dish: the bit of the value 2^d is set.
func eats(row, d int) bool {
	return holds(row, []int{d})
}

// P2.6

func TestValidateTable(t *testing.T) {
	for i, c := range []struct {
		rows   []int
		dishes int
		want   api.Errno
	}{
		{nil, 0, api.OK},
		{[]int{}, 8, api.OK},
		{make([]int, 8), 0, api.OK},
		{[]int{0, 255, 0, 255, 1, 128, 77, 254}, 8, api.OK},
		{nil, -1, api.ErrArg},
		{nil, 9, api.ErrArg},
		{nil, math.MaxInt, api.ErrArg},
		{nil, math.MinInt, api.ErrArg},
		{make([]int, 9), 9, api.ErrArg},
		{make([]int, 9), 8, api.ErrLarge},
		{append(make([]int, 8), -1), 8, api.ErrLarge},
		{[]int{256}, 8, api.ErrArg},
		{[]int{-1}, 8, api.ErrArg},
		{[]int{1}, 0, api.ErrArg},
		{[]int{0, 8}, 3, api.ErrArg},
		{[]int{math.MaxInt}, 8, api.ErrArg},
		{[]int{math.MinInt}, 8, api.ErrArg},
	} {
		if e := ValidateTable(c.rows, c.dishes); e != c.want {
			t.Errorf("%d: %v, want %v", i, e, c.want)
		}
		if c.want == api.OK {
			continue
		}
		// The set is wrong too: the table's error comes first.
		for _, set := range []int{-1, 0} {
			if n, e := Dishes(c.rows, c.dishes, set); n != 0 || e != c.want {
				t.Errorf("%d: %v %v, want %v", i, n, e, c.want)
			}
			if n, e := Children(c.rows, c.dishes, set); n != 0 || e != c.want {
				t.Errorf("%d: %v %v, want %v", i, n, e, c.want)
			}
		}
		if l, e := Pairs(c.rows, c.dishes); l != nil || e != c.want {
			t.Errorf("%d: %v %v, want %v", i, l, e, c.want)
		}
		if l, e := Menus(c.rows, c.dishes); l != nil || e != c.want {
			t.Errorf("%d: %v %v, want %v", i, l, e, c.want)
		}
	}
}

func TestDishes(t *testing.T) {
	for _, c := range []struct {
		rows                   []int
		dishes, children, want int
	}{
		{[]int{3, 6}, 3, 0, 7},
		{[]int{3, 6}, 3, 1, 3},
		{[]int{3, 6}, 3, 2, 6},
		{[]int{3, 6}, 3, 3, 2},
		{[]int{3, 6, 5}, 3, 7, 0},
		{nil, 8, 0, 255},
		{nil, 0, 0, 0},
		{slices.Repeat([]int{255}, 8), 8, 255, 255},
	} {
		if n, e := Dishes(c.rows, c.dishes, c.children); n != c.want || e != api.OK {
			t.Error(c, n, e)
		}
	}
	for _, children := range []int{-1, 4, 255, math.MaxInt, math.MinInt} {
		if n, e := Dishes([]int{3, 6}, 3, children); n != 0 || e != api.ErrArg {
			t.Error(children, n, e)
		}
	}
	if n, e := Dishes(nil, 3, 1); n != 0 || e != api.ErrArg {
		t.Error(n, e)
	}
}

func TestChildren(t *testing.T) {
	for _, c := range []struct {
		rows               []int
		dishes, menu, want int
	}{
		{[]int{3, 6}, 3, 0, 3},
		{[]int{3, 6}, 3, 1, 1},
		{[]int{3, 6}, 3, 2, 3},
		{[]int{3, 6}, 3, 4, 2},
		{[]int{3, 6}, 3, 5, 0},
		{nil, 8, 255, 0},
		{[]int{0, 0, 0}, 0, 0, 7},
		{slices.Repeat([]int{255}, 8), 8, 255, 255},
	} {
		if n, e := Children(c.rows, c.dishes, c.menu); n != c.want || e != api.OK {
			t.Error(c, n, e)
		}
	}
	for _, menu := range []int{-1, 8, 255, math.MaxInt, math.MinInt} {
		if n, e := Children([]int{3, 6}, 3, menu); n != 0 || e != api.ErrArg {
			t.Error(menu, n, e)
		}
	}
	if n, e := Children([]int{0}, 0, 1); n != 0 || e != api.ErrArg {
		t.Error(n, e)
	}
}

// Dishes and Children of many tables are what each child can eat.
func TestWhoEatsWhat(t *testing.T) {
	r := rand.New(rand.NewSource(61))
	for range 100 {
		rows, dishes := someTable(r, 6, 6)
		for set := range 1 << len(rows) {
			got, e := Dishes(rows, dishes, set)
			if e != api.OK || got < 0 || got >= 1<<dishes {
				t.Fatal(rows, dishes, set, got, e)
			}
			for d := range dishes {
				all := true
				for child, row := range rows {
					all = all && (!eats(set, child) || eats(row, d))
				}
				if eats(got, d) != all {
					t.Fatal(rows, dishes, set, got)
				}
			}
		}
		for menu := range 1 << dishes {
			got, e := Children(rows, dishes, menu)
			if e != api.OK || got < 0 || got >= 1<<len(rows) {
				t.Fatal(rows, dishes, menu, got, e)
			}
			for child, row := range rows {
				all := true
				for d := range dishes {
					all = all && (!eats(menu, d) || eats(row, d))
				}
				if eats(got, child) != all {
					t.Fatal(rows, dishes, menu, got)
				}
			}
		}
	}
}

func TestPairs(t *testing.T) {
	for _, c := range []struct {
		rows   []int
		dishes int
		want   [][2]int
	}{
		{[]int{3, 6}, 3, [][2]int{{0, 7}, {1, 3}, {2, 6}, {3, 2}}},
		{[]int{6, 3}, 3, [][2]int{{0, 7}, {1, 6}, {2, 3}, {3, 2}}},
		{[]int{1, 3}, 2, [][2]int{{2, 3}, {3, 1}}},
		{[]int{0, 0}, 2, [][2]int{{0, 3}, {3, 0}}},
		{[]int{3, 3}, 2, [][2]int{{3, 3}}},
		{nil, 0, [][2]int{{0, 0}}},
		{nil, 3, [][2]int{{0, 7}}},
		{[]int{0, 0}, 0, [][2]int{{3, 0}}},
	} {
		if l, e := Pairs(c.rows, c.dishes); !slices.Equal(l, c.want) || e != api.OK {
			t.Error(c, l, e)
		}
	}
	// Each child but one eats each dish: every set of children is that of a whole pair.
	var rows []int
	for child := range 8 {
		rows = append(rows, 255-1<<child)
	}
	if l, e := Pairs(rows, 8); len(l) != 256 || e != api.OK {
		t.Error(len(l), e)
	}
}

// The whole pairs of many tables are all pairs of which each part is the result of the other one; for each set of children exactly one is the smallest that contains it.
func TestManyPairs(t *testing.T) {
	r := rand.New(rand.NewSource(62))
	for range 200 {
		rows, dishes := someTable(r, 5, 5)
		var want [][2]int
		for children := range 1 << len(rows) {
			for menu := range 1 << dishes {
				d, _ := Dishes(rows, dishes, children)
				c, _ := Children(rows, dishes, menu)
				if d == menu && c == children {
					want = append(want, [2]int{children, menu})
				}
			}
		}
		l, e := Pairs(rows, dishes)
		if !slices.Equal(l, want) || e != api.OK {
			t.Fatal(rows, dishes, l, e, want)
		}
		for children := range 1 << len(rows) {
			if n := smallest(l, children); n != 1 {
				t.Fatal(rows, dishes, children, n)
			}
		}
	}
}

// smallest returns how many of the pairs that contain a set of children are contained in all others that do.
func smallest(pairs [][2]int, children int) int {
	n := 0
	for _, p := range pairs {
		if children&^p[0] != 0 {
			continue
		}
		if !slices.ContainsFunc(pairs, func(q [2]int) bool { return children&^q[0] == 0 && p[0]&^q[0] != 0 }) {
			n++
		}
	}
	return n
}

// P2.7

func TestMenus(t *testing.T) {
	for _, c := range []struct {
		rows   []int
		dishes int
		want   []int
	}{
		{[]int{3, 6}, 3, []int{2, 5}},
		{[]int{1, 2, 4}, 3, []int{7}},
		{[]int{7}, 3, []int{1, 2, 4}},
		{[]int{3, 5, 6}, 3, []int{3, 5, 6}},
		{[]int{3, 0}, 2, nil},
		{[]int{0}, 8, nil},
		{[]int{0}, 0, nil},
		{nil, 0, []int{0}},
		{nil, 8, []int{0}},
		{[]int{1, 2, 4, 8, 16, 32, 64, 128}, 8, []int{255}},
		{[]int{128, 255, 192}, 8, []int{128}},
	} {
		if l, e := Menus(c.rows, c.dishes); !slices.Equal(l, c.want) || e != api.OK {
			t.Error(c, l, e)
		}
	}
}

// The menus of many tables are those that feed all children and contain no other one that does.
func TestManyMenus(t *testing.T) {
	r := rand.New(rand.NewSource(71))
	none := 0
	for range 300 {
		rows, dishes := someTable(r, 6, 6)
		before := slices.Clone(rows)
		var feeding, want []int
		for menu := range 1 << dishes {
			all := true
			for _, row := range rows {
				all = all && slices.ContainsFunc(upTo(dishes), func(d int) bool { return eats(menu, d) && eats(row, d) })
			}
			if !all {
				continue
			}
			if !slices.ContainsFunc(feeding, func(other int) bool { return other&^menu == 0 }) {
				want = append(want, menu)
			}
			feeding = append(feeding, menu)
		}
		l, e := Menus(rows, dishes)
		if !slices.Equal(l, want) || e != api.OK || !slices.Equal(rows, before) {
			t.Fatal(rows, dishes, l, e, want)
		}
		if len(l) == 0 {
			none++
		}
	}
	if none < 20 || none > 200 {
		t.Error("the tables are too much alike", none)
	}
}
