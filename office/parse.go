package office

import (
	"strconv"
	"strings"

	"canteen/api"
)

// maxNumber is the greatest number that an order can have.
const maxNumber = 2000000

// kind is a kind of orders.
type kind int

// The kinds of orders.
const (
	kindAt kind = iota
	kindDish
	kindChild
	kindOrder
	kindCancel
	kindFree
	kindCook
	kindEat
)

// shape is what follows the first word of an order of a kind: a name or none, and then so many numbers, or more.
type shape struct {
	kind    kind
	named   bool
	numbers int
	more    bool
}

// shapeOf returns what follows the first word of an order, and whether there are such orders.
func shapeOf(word string) (shape, bool) {
	switch word {
	case "at":
		return shape{kind: kindAt, numbers: 1}, true
	case "dish":
		return shape{kind: kindDish, named: true, numbers: 1}, true
	case "child":
		return shape{kind: kindChild, numbers: 1, more: true}, true
	case "order":
		return shape{kind: kindOrder, numbers: 3}, true
	case "cancel":
		return shape{kind: kindCancel, numbers: 3}, true
	case "free":
		return shape{kind: kindFree, numbers: 3}, true
	case "cook":
		return shape{kind: kindCook, numbers: 2}, true
	case "eat":
		return shape{kind: kindEat, numbers: 2}, true
	}
	return shape{}, false
}

// command is what an order says.
type command struct {
	kind    kind
	name    string
	numbers []int
}

// parse returns what an order says, and whether it is one.
func parse(line string) (command, bool) {
	if len(line) > api.MaxLine {
		return command{}, false
	}
	words := strings.Split(line, " ")
	s, is := shapeOf(words[0])
	if !is {
		return command{}, false
	}
	c := command{kind: s.kind}
	words = words[1:]
	if s.named {
		if len(words) == 0 || !isWord(words[0]) {
			return command{}, false
		}
		c.name, words = words[0], words[1:]
	}
	if len(words) < s.numbers || len(words) > s.numbers && !s.more {
		return command{}, false
	}
	c.numbers, is = parseNumbers(words)
	if !is {
		return command{}, false
	}
	return c, true
}

// parseNumbers returns the numbers that words are, and whether all of them are numbers of orders.
func parseNumbers(words []string) ([]int, bool) {
	var numbers []int
	for _, word := range words {
		n, err := strconv.Atoi(word)
		// a number may be read that is not written so, as 03 or +3
		if err != nil || n < 0 || n > maxNumber || strconv.Itoa(n) != word {
			return nil, false
		}
		numbers = append(numbers, n)
	}
	return numbers, true
}

// isLetter reports whether a byte is a letter from a to z.
func isLetter(b byte) bool {
	return 'a' <= b && b <= 'z'
}

// isWord reports whether a word can be the name in an order, valid or not.
func isWord(word string) bool {
	for _, b := range []byte(word) {
		if !isLetter(b) && (b < '0' || b > '9') {
			return false
		}
	}
	return word != ""
}

// isName reports whether a word is a valid name.
func isName(word string) bool {
	return isWord(word) && len(word) <= api.MaxName && isLetter(word[0])
}
