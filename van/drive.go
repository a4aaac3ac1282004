package van

import (
	"sort"

	"canteen/api"
)

// maxMinute is the last minute of a window and of the begin of a drive.
const maxMinute = 10 * api.MaxMinutes

// Visit is a visit of a stop: when it is served, after waiting, and when the van leaves it.
type Visit struct {
	Stop, Arrive, Leave int
}

// isPossible reports whether all fields of a stop are within their limits.
func isPossible(s api.Stop) bool {
	return isWithin(s.Open, 0, maxMinute) && isWithin(s.Close, 0, maxMinute) && isWithin(s.Stay, 0, maxMinute) && isWithin(s.Boxes, 0, api.MaxBoxes)
}

// ValidateStops returns the error of ways, and then that of the stops of their places, or OK.
func ValidateStops(ways [][]int, stops []api.Stop) api.Errno {
	if e := Validate(ways); e != api.OK {
		return e
	}
	if len(stops) != len(ways) {
		return api.ErrArg
	}
	for _, s := range stops {
		if !isPossible(s) {
			return api.ErrArg
		}
	}
	return api.OK
}

// checkStops returns the errors of ways, of stops and of a tour.
func checkStops(ways [][]int, stops []api.Stop, tour []int) api.Errno {
	if e := ValidateStops(ways, stops); e != api.OK {
		return e
	}
	return checkTour(len(ways), tour)
}

// checkDrive returns the errors of ways, of stops and of a tour, and then ErrArg if it cannot begin at a minute.
func checkDrive(ways [][]int, stops []api.Stop, tour []int, begin int) api.Errno {
	if e := checkStops(ways, stops, tour); e != api.OK {
		return e
	}
	if !isWithin(begin, 0, maxMinute) {
		return api.ErrArg
	}
	return api.OK
}

// drive returns the visits of a tour, and when the van is back.
func drive(ways [][]int, stops []api.Stop, tour []int, begin int) ([]Visit, int) {
	var visits []Visit
	place, minute := 0, begin
	for _, stop := range tour {
		arrive := max(minute+ways[place][stop], stops[stop].Open)
		place, minute = stop, arrive+stops[stop].Stay
		visits = append(visits, Visit{Stop: stop, Arrive: arrive, Leave: minute})
	}
	return visits, minute + ways[place][0]
}

// firstLate returns the number of the first visit that comes after its stop has closed, or how many visits there are if none does.
func firstLate(stops []api.Stop, visits []Visit) int {
	for number, v := range visits {
		if v.Arrive > stops[v.Stop].Close {
			return number
		}
	}
	return len(visits)
}

// Drive returns the visits of a tour that begins at a minute, and when the van is back.
func Drive(ways [][]int, stops []api.Stop, tour []int, begin int) ([]Visit, int, api.Errno) {
	if e := checkDrive(ways, stops, tour, begin); e != api.OK {
		return nil, 0, e
	}
	visits, back := drive(ways, stops, tour, begin)
	return visits, back, api.OK
}

// Check returns when the van is back, or ErrLate with the place in the tour of the first visit that is too late.
func Check(ways [][]int, stops []api.Stop, tour []int, begin int) (int, api.Errno) {
	if e := checkDrive(ways, stops, tour, begin); e != api.OK {
		return 0, e
	}
	visits, back := drive(ways, stops, tour, begin)
	if late := firstLate(stops, visits); late < len(visits) {
		return late, api.ErrLate
	}
	return back, api.OK
}

// Latest returns the greatest begin with which a tour is not late anywhere, and whether there is one.
func Latest(ways [][]int, stops []api.Stop, tour []int) (int, bool, api.Errno) {
	if e := checkStops(ways, stops, tour); e != api.OK {
		return 0, false, e
	}
	// who leaves later is nowhere earlier, so that all begins behind one that is late are late
	late := sort.Search(maxMinute+1, func(begin int) bool {
		visits, _ := drive(ways, stops, tour, begin)
		return firstLate(stops, visits) < len(visits)
	})
	if late == 0 {
		return 0, false, api.OK
	}
	return late - 1, true, api.OK
}
