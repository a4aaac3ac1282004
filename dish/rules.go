package dish

import (
	"slices"

	"canteen/api"
)

// Follows reports whether a rule follows from those of the book.
func Follows(b api.Book, r api.Rule) (bool, api.Errno) {
	if e := Validate(b); e != api.OK {
		return false, e
	}
	if !isRule(b, r) {
		return false, api.ErrArg
	}
	return follows(b.Rules, r), api.OK
}

// follows reports whether a rule follows from other ones.
func follows(rules []api.Rule, r api.Rule) bool {
	return closure(rules, maskOf(r.If)).has(r.Then)
}

// Reduce returns the book without the rules that follow from the others, the last ones left out first.
func Reduce(b api.Book) (api.Book, api.Errno) {
	if e := Validate(b); e != api.OK {
		return api.Book{}, e
	}
	reduced := copyOf(b)
	for i := len(reduced.Rules) - 1; i >= 0; i-- {
		others := slices.Delete(slices.Clone(reduced.Rules), i, i+1)
		if follows(others, reduced.Rules[i]) {
			reduced.Rules = others
		}
	}
	return reduced, api.OK
}

// copyOf returns a book in memory of its own.
func copyOf(b api.Book) api.Book {
	c := api.Book{Props: b.Props}
	for _, item := range b.Items {
		c.Items = append(c.Items, api.Item{Parts: slices.Clone(item.Parts), Has: slices.Clone(item.Has)})
	}
	for _, r := range b.Rules {
		c.Rules = append(c.Rules, api.Rule{If: slices.Clone(r.If), Then: r.Then})
	}
	return c
}

// Closed returns the number of the sets of properties from which nothing else follows.
func Closed(b api.Book) (int, api.Errno) {
	if e := Validate(b); e != api.OK {
		return 0, e
	}
	n := 0
	for props := range mask(1) << b.Props {
		if closure(b.Rules, props) == props {
			n++
		}
	}
	return n, api.OK
}
