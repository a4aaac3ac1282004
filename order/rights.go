package order

import "canteen/api"

// isRight reports whether r can be a right.
func isRight(r api.Right) bool {
	return isChild(r.Child) && isStretch(r.From, r.To) && r.From < r.To
}

// ValidateRights returns the first error of a list of rights, or OK.
func ValidateRights(r []api.Right) api.Errno {
	if len(r) > api.MaxFacts {
		return api.ErrLarge
	}
	for _, right := range r {
		if !isRight(right) {
			return api.ErrArg
		}
	}
	return api.OK
}

// isFree reports whether a child has a right on a day.
func isFree(r []api.Right, child, day int) bool {
	for _, right := range r {
		if right.Child == child && right.From <= day && day < right.To {
			return true
		}
	}
	return false
}

// Free reports whether a child has a right on a day.
func Free(r []api.Right, child, day int) (bool, api.Errno) {
	if e := ValidateRights(r); e != api.OK {
		return false, e
	}
	if !isChild(child) || !isDay(day) {
		return false, api.ErrArg
	}
	return isFree(r, child, day), api.OK
}

// Rights returns the rights of a child brought together: the longest spans of days on which it is free, since rights that overlap or touch leave no day between them.
func Rights(r []api.Right, child int) ([]api.Right, api.Errno) {
	if e := ValidateRights(r); e != api.OK {
		return nil, e
	}
	if !isChild(child) {
		return nil, api.ErrArg
	}
	var rights []api.Right
	for _, s := range spansOf(func(day int) (int, bool) { return 0, isFree(r, child, day) }) {
		rights = append(rights, api.Right{Child: child, From: s.From, To: s.To})
	}
	return rights, api.OK
}
