package term

import (
	"slices"
	"strconv"
	"strings"

	"canteen/api"
)

// Format returns the text of a term.
func Format(t api.Term) (string, api.Errno) {
	if e := Validate(t); e != api.OK {
		return "", e
	}
	return format(t), api.OK
}

// format is Format for any term.
func format(t api.Term) string {
	words := []string{"term", strconv.Itoa(t.Length), "rest"}
	for _, day := range t.Rest {
		words = append(words, strconv.Itoa(day))
	}
	words = append(words, "closed")
	for _, day := range t.Closed {
		words = append(words, strconv.Itoa(day))
	}
	return strings.Join(words, " ")
}

// Parse returns the valid term whose Format is text.
func Parse(text string) (api.Term, api.Errno) {
	if len(text) > api.MaxText {
		return api.Term{}, api.ErrLarge
	}
	t, ok := read(strings.Split(text, " "))
	// Numbers may be read that Format would not write, as 03 or +3: the text must come out again.
	if !ok || Validate(t) != api.OK || format(t) != text {
		return api.Term{}, api.ErrSyntax
	}
	return t, api.OK
}

// read returns the term of the words of a text.
func read(words []string) (api.Term, bool) {
	closed := slices.Index(words, "closed")
	if closed < 3 || words[0] != "term" || words[2] != "rest" {
		return api.Term{}, false
	}
	length, err := strconv.Atoi(words[1])
	if err != nil {
		return api.Term{}, false
	}
	rest, ok := readNumbers(words[3:closed])
	if !ok {
		return api.Term{}, false
	}
	shut, ok := readNumbers(words[closed+1:])
	if !ok {
		return api.Term{}, false
	}
	return api.Term{Length: length, Rest: rest, Closed: shut}, true
}

// readNumbers returns the numbers that words are.
func readNumbers(words []string) ([]int, bool) {
	var numbers []int
	for _, word := range words {
		n, err := strconv.Atoi(word)
		if err != nil {
			return nil, false
		}
		numbers = append(numbers, n)
	}
	return numbers, true
}
