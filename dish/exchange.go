package dish

import (
	"cmp"
	"slices"

	"canteen/api"
)

// checkSwaps returns the first error of swaps for a valid book before any is done, or OK.
func checkSwaps(b api.Book, swaps []api.Swap) api.Errno {
	if len(swaps) > api.MaxSwaps {
		return api.ErrLarge
	}
	for _, s := range swaps {
		if !isItem(b, s.Item) || !isItem(b, s.By) {
			return api.ErrNone
		}
	}
	return api.OK
}

// Exchange returns the book with items exchanged wherever they are parts.
func Exchange(b api.Book, swaps []api.Swap) (api.Book, api.Errno) {
	if e := Validate(b); e != api.OK {
		return api.Book{}, e
	}
	if e := checkSwaps(b, swaps); e != api.OK {
		return api.Book{}, e
	}
	return exchange(b, swaps)
}

// exchange is Exchange for arguments that are right but for the order of items.
func exchange(b api.Book, swaps []api.Swap) (api.Book, api.Errno) {
	changed := copyOf(b)
	for _, s := range swaps {
		for i := range changed.Items {
			item := &changed.Items[i]
			at, isPart := slices.BinarySearch(item.Parts, s.Item)
			if !isPart {
				continue
			}
			if s.By >= i {
				return api.Book{}, api.ErrOrder
			}
			item.Parts[at] = s.By
			item.Parts = sortedSet(item.Parts)
		}
	}
	return changed, api.OK
}

// Fewest returns the smallest set of swaps that keeps properties out of the label of an item, and false if there is none.
func Fewest(b api.Book, item int, avoid []int, swaps []api.Swap) ([]int, bool, api.Errno) {
	if e := checkItem(b, item); e != api.OK {
		return nil, false, e
	}
	if !isSet(avoid, b.Props) {
		return nil, false, api.ErrArg
	}
	if e := checkSwaps(b, swaps); e != api.OK {
		return nil, false, e
	}
	var best []int
	found := false
	for choice := range mask(1) << len(swaps) {
		chosen := choice.numbers()
		if found && compareSets(chosen, best) > 0 {
			continue
		}
		if isFree(b, item, avoid, pick(swaps, chosen)) {
			best, found = chosen, true
		}
	}
	return best, found, api.OK
}

// compareSets orders sets by their sizes, those of a size in ascending order.
func compareSets(a, b []int) int {
	return cmp.Or(cmp.Compare(len(a), len(b)), slices.Compare(a, b))
}

// pick returns the swaps with the given numbers.
func pick(swaps []api.Swap, numbers []int) []api.Swap {
	var picked []api.Swap
	for _, n := range numbers {
		picked = append(picked, swaps[n])
	}
	return picked
}

// isFree reports whether swaps can be done and the label of the item then has no property of avoid.
func isFree(b api.Book, item int, avoid []int, swaps []api.Swap) bool {
	changed, e := exchange(b, swaps)
	return e == api.OK && label(changed, item)&maskOf(avoid) == 0
}
