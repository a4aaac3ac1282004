package van

import (
	"math"
	"math/rand"
	"slices"
	"testing"

	"canteen/api"
)

// watch follows a van from minute to minute; it returns its visits, when it is back, and the number of the first visit after the stop has closed, or -1.
func watch(ways [][]int, stops []api.Stop, tour []int, begin int) ([]Visit, int, int) {
	var visits []Visit
	minute, place, late := begin, 0, -1
	for number, stop := range tour {
		for driven := 0; driven < ways[place][stop]; driven++ {
			minute++
		}
		for minute < stops[stop].Open {
			minute++
		}
		if minute > stops[stop].Close && late < 0 {
			late = number
		}
		arrive := minute
		for stayed := 0; stayed < stops[stop].Stay; stayed++ {
			minute++
		}
		visits = append(visits, Visit{Stop: stop, Arrive: arrive, Leave: minute})
		place = stop
	}
	return visits, minute + ways[place][0], late
}

// forDrives goes through ways with stops, a tour of some of them, and a begin.
func forDrives(do func(ways [][]int, stops []api.Stop, tour []int, begin int)) {
	r := rand.New(rand.NewSource(98))
	for n := 1; n <= api.MaxStops; n++ {
		for _, most := range []int{1, 4, 40, 1000, maxMinute} {
			for range 60 {
				ways := someWays(r, n, min(most/2+1, api.MaxMinutes))
				do(ways, someStops(r, n, most), someTour(r, n), r.Intn(most/2+1))
			}
		}
	}
}

// P8.5: Drive and Check are what is seen of a van that is watched.
func TestDriveByMinutes(t *testing.T) {
	var lates [api.MaxStops]int
	accepted := 0
	forDrives(func(ways [][]int, stops []api.Stop, tour []int, begin int) {
		want, end, late := watch(ways, stops, tour, begin)
		visits, back, e := Drive(ways, stops, tour, begin)
		if e != api.OK || back != end || !slices.Equal(visits, want) {
			t.Fatalf("Drive of %v by %v to %v at %d: %v, %d, %v, want %v, %d", tour, ways, stops, begin, visits, back, e, want, end)
		}
		n, e := Check(ways, stops, tour, begin)
		if late >= 0 {
			lates[late]++
			if n != late || e != api.ErrLate {
				t.Fatalf("Check of %v by %v to %v at %d: %d, %v, want %d and late", tour, ways, stops, begin, n, e, late)
			}
			return
		}
		accepted++
		if n != end || e != api.OK {
			t.Fatalf("Check of %v by %v to %v at %d: %d, %v, want %d", tour, ways, stops, begin, n, e, end)
		}
	})
	if accepted < 300 || lates[0] < 100 || lates[2] < 100 {
		t.Errorf("%d are accepted, late are %v", accepted, lates)
	}
}

// windows are the stops of the chapter's second example, and one more.
func windows() []api.Stop {
	return []api.Stop{{}, {Open: 10, Close: 12, Stay: 2, Boxes: 3}, {Open: 0, Close: 20, Stay: 1, Boxes: 3}}
}

// P8.5: drives that are known.
func TestDriveExamples(t *testing.T) {
	for _, c := range []struct {
		tour  []int
		begin int
		want  []Visit
		back  int
		check int
		e     api.Errno
	}{
		{nil, 0, nil, 0, 0, api.OK},
		{nil, 10000, nil, 10000, 10000, api.OK},
		{[]int{1}, 0, []Visit{{1, 10, 12}}, 15, 15, api.OK},
		{[]int{1}, 7, []Visit{{1, 10, 12}}, 15, 15, api.OK},
		{[]int{1}, 9, []Visit{{1, 12, 14}}, 17, 17, api.OK},
		{[]int{1}, 10, []Visit{{1, 13, 15}}, 18, 0, api.ErrLate},
		{[]int{1, 2}, 0, []Visit{{1, 10, 12}, {2, 17, 18}}, 22, 22, api.OK},
		{[]int{1, 2}, 9, []Visit{{1, 12, 14}, {2, 19, 20}}, 24, 24, api.OK},
		{[]int{1, 2}, 10, []Visit{{1, 13, 15}, {2, 20, 21}}, 25, 0, api.ErrLate},
		{[]int{2, 1}, 2, []Visit{{2, 6, 7}, {1, 12, 14}}, 17, 17, api.OK},
		{[]int{2, 1}, 3, []Visit{{2, 7, 8}, {1, 13, 15}}, 18, 1, api.ErrLate},
		{[]int{2, 1}, 17, []Visit{{2, 21, 22}, {1, 27, 29}}, 32, 0, api.ErrLate},
		{[]int{2}, 10000, []Visit{{2, 10004, 10005}}, 10009, 0, api.ErrLate},
	} {
		visits, back, e := Drive(three(), windows(), c.tour, c.begin)
		if !slices.Equal(visits, c.want) || back != c.back || e != api.OK {
			t.Errorf("Drive of %v at %d: %v, %d, %v", c.tour, c.begin, visits, back, e)
		}
		if n, e := Check(three(), windows(), c.tour, c.begin); n != c.check || e != c.e {
			t.Errorf("Check of %v at %d: %d, %v, want %d, %v", c.tour, c.begin, n, e, c.check, c.e)
		}
	}
}

// P8.5: a stop that closes before it opens is always late, and the kitchen's stop is not looked at.
func TestClosedStop(t *testing.T) {
	stops := windows()
	stops[0] = api.Stop{Open: 10000, Close: 0, Stay: 10000, Boxes: 100}
	stops[1].Close = 9
	for begin := range 30 {
		if n, e := Check(three(), stops, []int{1}, begin); n != 0 || e != api.ErrLate {
			t.Errorf("Check at %d: %d, %v", begin, n, e)
		}
	}
	if n, e := Check(three(), stops, []int{2}, 5); n != 14 || e != api.OK {
		t.Errorf("Check: %d, %v", n, e)
	}
	if n, is, e := Latest(three(), stops, []int{2, 1}); n != 0 || is || e != api.OK {
		t.Errorf("Latest: %d, %v, %v", n, is, e)
	}
	if tour, back, is, e := Earliest(three(), stops, 0); len(tour) != 0 || back != 0 || is || e != api.OK {
		t.Errorf("Earliest: %v, %d, %v, %v", tour, back, is, e)
	}
}

// P8.5: the longest drive that there can be.
func TestLongestDrive(t *testing.T) {
	ways := square(7)
	for i := range ways {
		for j := range ways {
			if i != j {
				ways[i][j] = 1000
			}
		}
	}
	stops := slices.Repeat([]api.Stop{{Open: 10000, Close: 10000, Stay: 10000, Boxes: 100}}, 7)
	visits, back, e := Drive(ways, stops, []int{6, 5, 4, 3, 2, 1}, 10000)
	if len(visits) != 6 || visits[5] != (Visit{1, 66000, 76000}) || back != 77000 || e != api.OK {
		t.Errorf("Drive: %v, %d, %v", visits, back, e)
	}
	if n, e := Check(ways, stops, []int{6, 5}, 9000); n != 1 || e != api.ErrLate {
		t.Errorf("Check: %d, %v", n, e)
	}
}

// P8.5: ValidateStops.
func TestValidateStops(t *testing.T) {
	most := api.Stop{Open: 10000, Close: 10000, Stay: 10000, Boxes: 100}
	for i, c := range []struct {
		ways  [][]int
		stops []api.Stop
		want  api.Errno
	}{
		{square(1), []api.Stop{{}}, api.OK},
		{square(1), []api.Stop{most}, api.OK},
		{square(2), []api.Stop{{}, most}, api.OK},
		{square(2), []api.Stop{{}, {Open: 5, Close: 4}}, api.OK},
		{square(7), make([]api.Stop, 7), api.OK},
		{square(8), make([]api.Stop, 8), api.ErrLarge},
		{nil, nil, api.ErrLarge},
		{square(1), nil, api.ErrArg},
		{square(2), []api.Stop{{}}, api.ErrArg},
		{square(2), make([]api.Stop, 3), api.ErrArg},
		{square(1), []api.Stop{{Open: -1}}, api.ErrArg},
		{square(1), []api.Stop{{Close: -1}}, api.ErrArg},
		{square(1), []api.Stop{{Stay: -1}}, api.ErrArg},
		{square(1), []api.Stop{{Boxes: -1}}, api.ErrArg},
		{square(2), []api.Stop{{}, {Open: 10001}}, api.ErrArg},
		{square(2), []api.Stop{{}, {Close: 10001}}, api.ErrArg},
		{square(2), []api.Stop{{}, {Stay: 10001}}, api.ErrArg},
		{square(2), []api.Stop{{}, {Boxes: 101}}, api.ErrArg},
		{square(2), []api.Stop{{Boxes: math.MaxInt}, {Open: math.MinInt}}, api.ErrArg},
		{[][]int{{1}}, []api.Stop{{}}, api.ErrArg},
	} {
		if e := ValidateStops(c.ways, c.stops); e != c.want {
			t.Errorf("%d: %v, want %v", i, e, c.want)
		}
	}
}

// P8.6: Latest is the last begin of all that Check accepts; it accepts all earlier ones, and who leaves later is not back earlier.
func TestLatest(t *testing.T) {
	some, none, cases := 0, 0, 0
	forDrives(func(ways [][]int, stops []api.Stop, tour []int, _ int) {
		if cases++; cases%10 != 0 {
			return
		}
		want, has, before := 0, false, 0
		for begin := range maxMinute + 1 {
			back, e := Check(ways, stops, tour, begin)
			if e != api.OK {
				continue
			}
			if begin > 0 && !has || begin > want+1 || back < before {
				t.Fatalf("Check of %v by %v to %v accepts %d", tour, ways, stops, begin)
			}
			want, has, before = begin, true, back
		}
		if n, is, e := Latest(ways, stops, tour); n != want || is != has || e != api.OK {
			t.Fatalf("Latest of %v by %v to %v: %d, %v, %v, want %d, %v", tour, ways, stops, n, is, e, want, has)
		}
		if has {
			some++
		} else {
			none++
		}
	})
	if some < 30 || none < 30 {
		t.Errorf("%d have a begin, %d have none", some, none)
	}
}

// P8.6: the begin of Latest is accepted, and the next one is not.
func TestLatestIsLast(t *testing.T) {
	forDrives(func(ways [][]int, stops []api.Stop, tour []int, begin int) {
		n, is, e := Latest(ways, stops, tour)
		_, f := Check(ways, stops, tour, n)
		if e != api.OK || is != (f == api.OK) || !is && n != 0 {
			t.Fatalf("Latest of %v by %v to %v: %d, %v, %v, then Check %v", tour, ways, stops, n, is, e, f)
		}
		if _, f := Check(ways, stops, tour, n+1); is && n < maxMinute && f != api.ErrLate {
			t.Fatalf("Latest of %v by %v to %v: %d, but %d: %v", tour, ways, stops, n, n+1, f)
		}
		if _, f := Check(ways, stops, tour, begin); (f == api.OK) != (is && begin <= n) {
			t.Fatalf("Latest of %v by %v to %v: %d, but %d: %v", tour, ways, stops, n, begin, f)
		}
	})
}

// P8.6: latest begins that are known.
func TestLatestExamples(t *testing.T) {
	for _, c := range []struct {
		close1, close2 int
		tour           []int
		want           int
		is             bool
	}{
		{12, 20, nil, 10000, true},
		{12, 20, []int{1}, 9, true},
		{12, 20, []int{2}, 16, true},
		{12, 20, []int{1, 2}, 9, true},
		{12, 20, []int{2, 1}, 2, true},
		{12, 17, []int{1, 2}, 7, true},
		{12, 16, []int{1, 2}, 0, false},
		{10, 20, []int{2, 1}, 0, true},
		{9, 20, []int{2, 1}, 0, false},
		{12, 4, []int{2, 1}, 0, true},
		{12, 3, []int{2, 1}, 0, false},
		{10000, 10000, []int{1, 2}, 9990, true},
		{10000, 10000, []int{2}, 9996, true},
	} {
		stops := windows()
		stops[1].Close, stops[2].Close = c.close1, c.close2
		if n, is, e := Latest(three(), stops, c.tour); n != c.want || is != c.is || e != api.OK {
			t.Errorf("Latest of %v with %d and %d: %d, %v, %v, want %d, %v", c.tour, c.close1, c.close2, n, is, e, c.want, c.is)
		}
	}
	// a stop next to the kitchen may be left for at its last minute
	if n, is, e := Latest(square(2), []api.Stop{{}, {Close: 10000}}, []int{1}); n != 10000 || !is || e != api.OK {
		t.Errorf("Latest: %d, %v, %v", n, is, e)
	}
	if n, is, e := Latest(square(2), []api.Stop{{}, {Close: 9999}}, []int{1}); n != 9999 || !is || e != api.OK {
		t.Errorf("Latest: %d, %v, %v", n, is, e)
	}
}
