package kitchen

import (
	"math"
	"math/rand"
	"slices"
	"testing"

	"canteen/api"
)

// smallBatches goes through all lists of so many batches with numbers from 0 to most.
func smallBatches(n, most int, do func(l []api.Batch)) {
	l := make([]api.Batch, 0, n)
	var add func()
	add = func() {
		if len(l) == n {
			do(slices.Clone(l))
			return
		}
		for cook := range most + 1 {
			for pack := range most + 1 {
				l = append(l, api.Batch{Cook: cook, Pack: pack})
				add()
				l = l[:len(l)-1]
			}
		}
	}
	add()
}

// someBatches are n batches with numbers from 0 to most.
func someBatches(r *rand.Rand, n, most int) []api.Batch {
	var l []api.Batch
	for range n {
		l = append(l, api.Batch{Cook: r.Intn(most + 1), Pack: r.Intn(most + 1)})
	}
	return l
}

// orders are all orders of n batches: those of n - 1 with the last number put into each gap.
func orders(n int) [][]int {
	if n == 0 {
		return [][]int{{}}
	}
	var all [][]int
	for _, shorter := range orders(n - 1) {
		for gap := range n {
			all = append(all, slices.Insert(slices.Clone(shorter), gap, n-1))
		}
	}
	return all
}

// forBatches goes through lists of batches, small and large, each with an order.
func forBatches(do func(l []api.Batch, order []int)) {
	for n := range 4 {
		for _, order := range orders(n) {
			smallBatches(n, 5-n, func(l []api.Batch) { do(l, order) })
		}
	}
	r := rand.New(rand.NewSource(81))
	for n := 1; n <= api.MaxBatches; n++ {
		for _, most := range []int{1, 3, 10, api.MaxMinutes} {
			for range 30 {
				do(someBatches(r, n, most), r.Perm(n))
			}
		}
	}
}

// watch follows a kitchen from minute to minute; it returns the shifts, and how many minutes the packing line waits for food.
func watch(l []api.Batch, order []int) ([]Shift, int) {
	shifts := make([]Shift, len(order))
	cooking, packing, waits := 0, 0, 0
	isCooking, isPacking := false, false
	for minute := 0; ; minute++ {
		for changed := true; changed; {
			changed = true
			switch {
			case isCooking && minute == shifts[cooking].Cook+l[order[cooking]].Cook:
				shifts[cooking].Cooked, isCooking = minute, false
				cooking++
			case isPacking && minute == shifts[packing].Pack+l[order[packing]].Pack:
				shifts[packing].Packed, isPacking = minute, false
				packing++
			case !isCooking && cooking < len(order):
				shifts[cooking].Batch, shifts[cooking].Cook, isCooking = order[cooking], minute, true
			case !isPacking && packing < cooking:
				shifts[packing].Pack, isPacking = minute, true
			default:
				changed = false
			}
		}
		if packing == len(order) {
			return shifts, waits
		}
		if !isPacking {
			waits++
		}
	}
}

// P7.1: Run, Time and Idle are what a kitchen shows that is watched.
func TestRunByMinutes(t *testing.T) {
	forBatches(func(l []api.Batch, order []int) {
		want, waits := watch(l, order)
		shifts, e := Run(l, order)
		if e != api.OK || !slices.Equal(shifts, want) {
			t.Fatalf("Run of %v in the order %v: %v, %v, want %v", l, order, shifts, e, want)
		}
		end := 0
		if len(want) > 0 {
			end = want[len(want)-1].Packed
		}
		if time, e := Time(l, order); e != api.OK || time != end {
			t.Fatalf("Time of %v in the order %v: %d, %v, want %d", l, order, time, e, end)
		}
		if idle, e := Idle(l, order); e != api.OK || idle != waits {
			t.Fatalf("Idle of %v in the order %v: %d, %v, want %d", l, order, idle, e, waits)
		}
	})
}

// P7.1: all orders of all numbers of batches are orders, and no other lists of numbers near them.
func TestOrders(t *testing.T) {
	for n := range 5 {
		l := slices.Repeat([]api.Batch{{Cook: 1, Pack: 2}}, n)
		count, factorial := 0, 1
		for length := range n + 2 {
			list := make([]int, length)
			var fill func(place int)
			fill = func(place int) {
				if place == length {
					isOrder := length == n
					for number := range n {
						isOrder = isOrder && slices.Contains(list, number)
					}
					want := api.ErrArg
					if isOrder {
						want = api.OK
						count++
					}
					if _, e := Time(l, list); e != want {
						t.Errorf("Time of %d batches in the order %v: %v, want %v", n, list, e, want)
					}
					return
				}
				for number := -1; number <= n; number++ {
					list[place] = number
					fill(place + 1)
				}
			}
			fill(0)
		}
		for i := range n {
			factorial *= i + 1
		}
		if count != factorial {
			t.Errorf("%d orders of %d batches", count, n)
		}
	}
}

// P7.1: Validate.
func TestValidate(t *testing.T) {
	for _, c := range []struct {
		l    []api.Batch
		want api.Errno
	}{
		{nil, api.OK},
		{[]api.Batch{}, api.OK},
		{[]api.Batch{{}}, api.OK},
		{[]api.Batch{{Cook: 1000, Pack: 1000}}, api.OK},
		{make([]api.Batch, 7), api.OK},
		{make([]api.Batch, 8), api.ErrLarge},
		{append(make([]api.Batch, 7), api.Batch{Cook: -1}), api.ErrLarge},
		{append(make([]api.Batch, 6), api.Batch{Cook: -1}), api.ErrArg},
		{[]api.Batch{{Cook: 1001}}, api.ErrArg},
		{[]api.Batch{{Pack: 1001}}, api.ErrArg},
		{[]api.Batch{{Cook: -1}}, api.ErrArg},
		{[]api.Batch{{Pack: -1}}, api.ErrArg},
		{[]api.Batch{{Cook: math.MinInt}, {}}, api.ErrArg},
		{[]api.Batch{{}, {Pack: math.MaxInt}}, api.ErrArg},
	} {
		if e := Validate(c.l); e != c.want {
			t.Errorf("Validate of %v: %v, want %v", c.l, e, c.want)
		}
	}
}

// P7.1 and P7.2: the chapter's first example, in three orders.
func TestExample(t *testing.T) {
	l := good().l
	for _, c := range []struct {
		order                []int
		want                 []Shift
		time, idle, critical int
	}{
		{[]int{0, 2, 1}, []Shift{{0, 0, 3, 3, 9}, {2, 3, 7, 9, 16}, {1, 7, 14, 16, 18}}, 18, 3, 0},
		{[]int{0, 1, 2}, []Shift{{0, 0, 3, 3, 9}, {1, 3, 10, 10, 12}, {2, 10, 14, 14, 21}}, 21, 6, 2},
		{[]int{1, 0, 2}, []Shift{{1, 0, 7, 7, 9}, {0, 7, 10, 10, 16}, {2, 10, 14, 16, 23}}, 23, 8, 1},
	} {
		shifts, e := Run(l, c.order)
		time, f := Time(l, c.order)
		idle, g := Idle(l, c.order)
		critical, h := Critical(l, c.order)
		if !slices.Equal(shifts, c.want) || time != c.time || idle != c.idle || critical != c.critical || e != api.OK || f != api.OK || g != api.OK || h != api.OK {
			t.Errorf("the order %v: %v, time %d, idle %d, critical %d", c.order, shifts, time, idle, critical)
		}
	}
}

// wholeAt returns how long the batches up to a place are cooked and those from it on are packed.
func wholeAt(l []api.Batch, order []int, place int) int {
	sum := 0
	for _, number := range order[:place+1] {
		sum += l[number].Cook
	}
	for _, number := range order[place:] {
		sum += l[number].Pack
	}
	return sum
}

// P7.2: Critical is the first place whose sum is the time, and the time is the greatest sum.
func TestCritical(t *testing.T) {
	several := 0
	forBatches(func(l []api.Batch, order []int) {
		if len(l) == 0 {
			return
		}
		time, _ := Time(l, order)
		var places []int
		for place := range order {
			sum := wholeAt(l, order, place)
			if sum > time {
				t.Fatalf("%v in the order %v: %d at the place %d, but the time is %d", l, order, sum, place, time)
			}
			if sum == time {
				places = append(places, place)
			}
		}
		if len(places) > 1 {
			several++
		}
		if place, e := Critical(l, order); e != api.OK || len(places) == 0 || place != places[0] {
			t.Fatalf("Critical of %v in the order %v: %d, %v, want the first of %v", l, order, place, e, places)
		}
	})
	if several < 1000 {
		t.Errorf("only %d orders have several such places", several)
	}
}

// P7.2: without batches there is no such place.
func TestCriticalOfNone(t *testing.T) {
	for _, l := range [][]api.Batch{nil, {}} {
		if place, e := Critical(l, nil); e != api.ErrNone || place != 0 {
			t.Errorf("Critical without batches: %d, %v", place, e)
		}
	}
	if place, e := Critical([]api.Batch{{}}, []int{0}); e != api.OK || place != 0 {
		t.Errorf("Critical of a batch without minutes: %d, %v", place, e)
	}
}

// P7.5: Late by the minutes at which a kitchen is seen to be ready; a batch is not late at the minute itself.
func TestLate(t *testing.T) {
	r := rand.New(rand.NewSource(82))
	onTime, late := 0, 0
	forBatches(func(l []api.Batch, order []int) {
		shifts, _ := watch(l, order)
		due := make([]int, len(l))
		var want []int
		for number := range l {
			place := slices.Index(order, number)
			due[number] = shifts[place].Packed + r.Intn(3) - 1
			if due[number] < shifts[place].Packed {
				want = append(want, number)
				late++
			} else if due[number] == shifts[place].Packed {
				onTime++
			}
		}
		if got, e := Late(l, order, due); e != api.OK || !slices.Equal(got, want) {
			t.Fatalf("Late of %v in the order %v with %v: %v, %v, want %v", l, order, due, got, e, want)
		}
	})
	if late < 1000 || onTime < 1000 {
		t.Errorf("%d late, %d on time", late, onTime)
	}
}

// P7.5: any number can be due.
func TestLateExamples(t *testing.T) {
	for _, c := range []struct{ order, due, want []int }{
		{[]int{0, 2, 1}, []int{9, 17, 15}, []int{1, 2}},
		{[]int{0, 2, 1}, []int{9, 18, 16}, nil},
		{[]int{0, 2, 1}, []int{8, 18, 16}, []int{0}},
		{[]int{2, 1, 0}, []int{0, 0, 0}, []int{0, 1, 2}},
		{[]int{2, 1, 0}, []int{math.MinInt, math.MaxInt, -1}, []int{0, 2}},
		{[]int{2, 1, 0}, []int{math.MaxInt, math.MaxInt, math.MaxInt}, nil},
	} {
		if got, e := Late(good().l, c.order, c.due); e != api.OK || !slices.Equal(got, c.want) {
			t.Errorf("Late in the order %v with %v: %v, %v, want %v", c.order, c.due, got, e, c.want)
		}
	}
	if got, e := Late([]api.Batch{{}}, []int{0}, []int{0}); e != api.OK || len(got) != 0 {
		t.Errorf("Late of a batch without minutes at 0: %v, %v", got, e)
	}
	if got, e := Late([]api.Batch{{}}, []int{0}, []int{-1}); e != api.OK || !slices.Equal(got, []int{0}) {
		t.Errorf("Late of a batch without minutes at -1: %v, %v", got, e)
	}
}
