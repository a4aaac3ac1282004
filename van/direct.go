package van

import "canteen/api"

// pair is two places, in a direction.
type pair struct {
	from, to int
}

// distances returns the smallest sum of ways from each place to each, over any others.
func distances(ways [][]int) map[pair]int {
	least := map[pair]int{}
	for from, row := range ways {
		for to, minutes := range row {
			least[pair{from, to}] = minutes
		}
	}
	// after each turn, the sums are the smallest ones over the places up to over
	for over := range ways {
		for from := range ways {
			for to := range ways {
				detour := least[pair{from, over}] + least[pair{over, to}]
				least[pair{from, to}] = min(least[pair{from, to}], detour)
			}
		}
	}
	return least
}

// Direct returns the ways when detours may be taken.
func Direct(ways [][]int) ([][]int, api.Errno) {
	if e := Validate(ways); e != api.OK {
		return nil, e
	}
	least := distances(ways)
	var direct [][]int
	for from := range ways {
		var row []int
		for to := range ways {
			row = append(row, least[pair{from, to}])
		}
		direct = append(direct, row)
	}
	return direct, api.OK
}

// IsDirect reports whether no detour is shorter than a way.
func IsDirect(ways [][]int) (bool, api.Errno) {
	if e := Validate(ways); e != api.OK {
		return false, e
	}
	least := distances(ways)
	for from, row := range ways {
		for to, minutes := range row {
			if least[pair{from, to}] != minutes {
				return false, api.OK
			}
		}
	}
	return true, api.OK
}
