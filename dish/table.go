package dish

import "canteen/api"

// ValidateTable returns the first error of a table of children and dishes, or OK.
func ValidateTable(rows []int, dishes int) api.Errno {
	if dishes < 0 || dishes > api.MaxDishes {
		return api.ErrArg
	}
	if len(rows) > api.MaxEaters {
		return api.ErrLarge
	}
	for _, row := range rows {
		if !isChoice(row, dishes) {
			return api.ErrArg
		}
	}
	return api.OK
}

// isChoice reports whether set is the number of a set of the things 0 to things - 1.
func isChoice(set, things int) bool {
	return set >= 0 && set < 1<<things
}

// Dishes returns the set of the dishes that all children of a set can eat.
func Dishes(rows []int, dishes int, children int) (int, api.Errno) {
	if e := ValidateTable(rows, dishes); e != api.OK {
		return 0, e
	}
	if !isChoice(children, len(rows)) {
		return 0, api.ErrArg
	}
	return commonDishes(rows, dishes, children), api.OK
}

// commonDishes is Dishes for valid arguments.
func commonDishes(rows []int, dishes int, children int) int {
	common := 1<<dishes - 1
	for child, row := range rows {
		if mask(children).has(child) {
			common &= row
		}
	}
	return common
}

// Children returns the set of the children who can eat all dishes of a set.
func Children(rows []int, dishes int, menu int) (int, api.Errno) {
	if e := ValidateTable(rows, dishes); e != api.OK {
		return 0, e
	}
	if !isChoice(menu, dishes) {
		return 0, api.ErrArg
	}
	return eaters(rows, menu), api.OK
}

// eaters is Children for valid arguments.
func eaters(rows []int, menu int) int {
	children := 0
	for child, row := range rows {
		if menu&^row == 0 {
			children |= 1 << child
		}
	}
	return children
}

// Pairs returns all whole pairs of a set of children and one of dishes.
func Pairs(rows []int, dishes int) ([][2]int, api.Errno) {
	if e := ValidateTable(rows, dishes); e != api.OK {
		return nil, e
	}
	var pairs [][2]int
	for children := range 1 << len(rows) {
		menu := commonDishes(rows, dishes, children)
		if eaters(rows, menu) == children {
			pairs = append(pairs, [2]int{children, menu})
		}
	}
	return pairs, api.OK
}

// Menus returns the sets of dishes that feed every child and of which no dish can be left out.
func Menus(rows []int, dishes int) ([]int, api.Errno) {
	if e := ValidateTable(rows, dishes); e != api.OK {
		return nil, e
	}
	var menus []int
	for menu := range 1 << dishes {
		if feeds(rows, menu) && !hasSpare(rows, menu) {
			menus = append(menus, menu)
		}
	}
	return menus, api.OK
}

// feeds reports whether every child can eat at least one dish of a menu.
func feeds(rows []int, menu int) bool {
	for _, row := range rows {
		if row&menu == 0 {
			return false
		}
	}
	return true
}

// hasSpare reports whether some dish of a menu can be left out and every child is still fed.
func hasSpare(rows []int, menu int) bool {
	for _, dish := range mask(menu).numbers() {
		if feeds(rows, menu&^(1<<dish)) {
			return true
		}
	}
	return false
}
