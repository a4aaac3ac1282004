package dish

import (
	"cmp"
	"math/bits"
	"slices"
)

// mask is a set of small numbers from 0 on: x is in it if its bit x is set.
type mask uint

// maskOf returns the set of the numbers of a list.
func maskOf(l []int) mask {
	var m mask
	for _, x := range l {
		m = m.with(x)
	}
	return m
}

// has reports whether x is in the set.
func (m mask) has(x int) bool {
	return m>>x&1 == 1
}

// hasAll reports whether all numbers of a list are in the set.
func (m mask) hasAll(l []int) bool {
	return maskOf(l)&^m == 0
}

// with returns the set with x in it.
func (m mask) with(x int) mask {
	return m | 1<<x
}

// size returns how many numbers are in the set.
func (m mask) size() int {
	return bits.OnesCount(uint(m))
}

// numbers returns the set as a slice in ascending order.
func (m mask) numbers() []int {
	var l []int
	for x := range bits.Len(uint(m)) {
		if m.has(x) {
			l = append(l, x)
		}
	}
	return l
}

// isSet reports whether l is a set of numbers from 0 to end - 1.
func isSet(l []int, end int) bool {
	for i, x := range l {
		if x < 0 || x >= end || i > 0 && l[i-1] >= x {
			return false
		}
	}
	return true
}

// sortedSet returns the set of the elements of a list: each of them once, in ascending order.
func sortedSet[T cmp.Ordered](l []T) []T {
	set := slices.Clone(l)
	slices.Sort(set)
	return slices.Compact(set)
}
