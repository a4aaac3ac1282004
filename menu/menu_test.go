package menu

import (
	"math"
	"math/rand"
	"reflect"
	"slices"
	"testing"

	"canteen/api"
)

// all accepts every word.
func all(letters int) api.Machine {
	return api.Machine{Letters: letters, Next: [][]int{make([]int, letters)}, Accept: []bool{true}}
}

// ring is a machine of one letter that accepts the words whose length modulo states is in accepted.
func ring(states int, accepted ...int) api.Machine {
	m := api.Machine{Letters: 1, Accept: make([]bool, states)}
	for s := range states {
		m.Next = append(m.Next, []int{(s + 1) % states})
	}
	for _, s := range accepted {
		m.Accept[s] = true
	}
	return m
}

// someMachine returns a valid machine of so many letters and at most so many states.
func someMachine(r *rand.Rand, letters, states int) api.Machine {
	n := r.Intn(states) + 1
	m := api.Machine{Letters: letters}
	for range n {
		row := make([]int, letters)
		for a := range row {
			row[a] = r.Intn(n)
		}
		m.Next = append(m.Next, row)
		m.Accept = append(m.Accept, r.Intn(3) > 0)
	}
	return m
}

// copyOf returns a machine in memory of its own.
func copyOf(m api.Machine) api.Machine {
	c := api.Machine{Letters: m.Letters, Accept: slices.Clone(m.Accept)}
	for _, row := range m.Next {
		c.Next = append(c.Next, slices.Clone(row))
	}
	return c
}

// same reports whether machines are equal, state by state.
func same(a, b api.Machine) bool {
	return a.Letters == b.Letters && slices.EqualFunc(a.Next, b.Next, slices.Equal[[]int]) && slices.Equal(a.Accept, b.Accept)
}

// spoil writes into all memory of a machine, also that behind the ends of its slices.
func spoil(m api.Machine) {
	for _, row := range m.Next {
		row = row[:cap(row)]
		for a := range row {
			row[a] = -7
		}
	}
	clear(m.Next[:cap(m.Next)])
	accept := m.Accept[:cap(m.Accept)]
	for s := range accept {
		accept[s] = !accept[s]
	}
}

// isOwnMemory reports whether no row of a machine shares memory with another one of it, by writing into and behind each.
func isOwnMemory(m api.Machine) bool {
	for s, row := range m.Next {
		before := copyOf(m)
		_ = append(row, -7)
		for a := range row {
			row[a] = -row[a] - 1
			before.Next[s][a] = row[a]
		}
		if !same(m, before) {
			return false
		}
		for a := range row {
			row[a] = -row[a] - 1
		}
	}
	return true
}

// reads reports whether a machine accepts a word, letter by letter as api says it.
func reads(m api.Machine, word []int) bool {
	s := 0
	for _, a := range word {
		s = m.Next[s][a]
	}
	return m.Accept[s]
}

// wordsOf returns all words of a length in ascending order.
func wordsOf(letters, n int) [][]int {
	if n == 0 {
		return [][]int{{}}
	}
	var l [][]int
	for a := range letters {
		for _, w := range wordsOf(letters, n-1) {
			l = append(l, append([]int{a}, w...))
		}
	}
	return l
}

// wordsUpTo returns all words of at most n letters in ascending order of length and then of letters.
func wordsUpTo(letters, n int) [][]int {
	var l [][]int
	for length := range n + 1 {
		l = append(l, wordsOf(letters, length)...)
	}
	return l
}

// good returns the machine of a call that must have no error.
func good(t *testing.T) func(m api.Machine, e api.Errno) api.Machine {
	return func(m api.Machine, e api.Errno) api.Machine {
		t.Helper()
		if e != api.OK {
			t.Fatal(e)
		}
		return m
	}
}

// P3.1

// with returns a machine of two letters and three states that change has changed.
func with(change func(m *api.Machine)) api.Machine {
	m := api.Machine{Letters: 2, Next: [][]int{{0, 1}, {2, 1}, {2, 0}}, Accept: []bool{true, false, true}}
	change(&m)
	return m
}

func TestValidate(t *testing.T) {
	large := someMachine(rand.New(rand.NewSource(1)), 6, 1)
	large.Next = slices.Repeat([][]int{{63, 62, 0, 1, 2, 3}}, 64)
	large.Accept = make([]bool, 64)
	for i, c := range []struct {
		m    api.Machine
		want api.Errno
	}{
		{with(func(m *api.Machine) {}), api.OK},
		{large, api.OK},
		{all(1), api.OK},
		{all(6), api.OK},
		{ring(64, 3), api.OK},
		{api.Machine{}, api.ErrArg},
		{all(7), api.ErrArg},
		{with(func(m *api.Machine) { m.Letters = 0 }), api.ErrArg},
		{with(func(m *api.Machine) { m.Letters = -1 }), api.ErrArg},
		{with(func(m *api.Machine) { m.Letters = math.MaxInt }), api.ErrArg},
		{with(func(m *api.Machine) { m.Letters = math.MinInt }), api.ErrArg},
		{api.Machine{Letters: 0, Next: [][]int{{}}, Accept: []bool{true}}, api.ErrArg},
		{ring(65), api.ErrLarge},
		{api.Machine{Letters: 2}, api.ErrArg},
		{api.Machine{Letters: 2, Next: [][]int{}, Accept: []bool{}}, api.ErrArg},
		{api.Machine{Letters: 2, Accept: []bool{true}}, api.ErrArg},
		{with(func(m *api.Machine) { m.Letters = 1 }), api.ErrArg},
		{with(func(m *api.Machine) { m.Letters = 3 }), api.ErrArg},
		{with(func(m *api.Machine) { m.Next[0] = []int{0} }), api.ErrArg},
		{with(func(m *api.Machine) { m.Next[1] = []int{0, 0, 0} }), api.ErrArg},
		{with(func(m *api.Machine) { m.Next[2] = nil }), api.ErrArg},
		{with(func(m *api.Machine) { m.Next[0][0] = 3 }), api.ErrArg},
		{with(func(m *api.Machine) { m.Next[1][1] = -1 }), api.ErrArg},
		{with(func(m *api.Machine) { m.Next[2][1] = math.MaxInt }), api.ErrArg},
		{with(func(m *api.Machine) { m.Next[2][0] = math.MinInt }), api.ErrArg},
		{with(func(m *api.Machine) { m.Accept = nil }), api.ErrArg},
		{with(func(m *api.Machine) { m.Accept = m.Accept[:2] }), api.ErrArg},
		{with(func(m *api.Machine) { m.Accept = append(m.Accept, true) }), api.ErrArg},
		// Of several errors the first one that the chapter names.
		{with(func(m *api.Machine) { m.Letters = 7; m.Next = make([][]int, 65) }), api.ErrArg},
		{with(func(m *api.Machine) { m.Next = make([][]int, 65) }), api.ErrLarge},
		{with(func(m *api.Machine) { m.Next = append(ring(64).Next, []int{99}) }), api.ErrLarge},
	} {
		if e := Validate(c.m); e != c.want {
			t.Errorf("%d: %v, want %v", i, e, c.want)
		}
	}
}

// call is a call of a function with one machine, with a word or a length that may be wrong too: its results but the error, and the error.
type call struct {
	name   string
	values func(m api.Machine, word []int, n int) ([]any, api.Errno)
}

// calls are those of all functions with a machine; those with two have another one of three letters beside it.
func calls() []call {
	return []call{
		{"Plain", func(m api.Machine, _ []int, _ int) ([]any, api.Errno) { v, e := Plain(m); return []any{v}, e }},
		{"Not", func(m api.Machine, _ []int, _ int) ([]any, api.Errno) { v, e := Not(m); return []any{v}, e }},
		{"Accepts", func(m api.Machine, w []int, _ int) ([]any, api.Errno) { v, e := Accepts(m, w); return []any{v}, e }},
		{"Rank", func(m api.Machine, w []int, _ int) ([]any, api.Errno) { v, e := Rank(m, w); return []any{v}, e }},
		{"Round", func(m api.Machine, w []int, _ int) ([]any, api.Errno) { v, e := Round(m, w); return []any{v}, e }},
		{"Count", func(m api.Machine, _ []int, n int) ([]any, api.Errno) { v, e := Count(m, n); return []any{v}, e }},
		{"Unrank", func(m api.Machine, _ []int, n int) ([]any, api.Errno) { v, e := Unrank(m, n, -1); return []any{v}, e }},
		{"CountPoints", func(m api.Machine, _ []int, n int) ([]any, api.Errno) {
			v, e := CountPoints(m, n, make([]int, m.Letters), 0)
			return []any{v}, e
		}},
		{"Cheapest", func(m api.Machine, _ []int, n int) ([]any, api.Errno) {
			v, w, x, e := Cheapest(m, n, make([]int, m.Letters))
			return []any{v, w, x}, e
		}},
		{"Both", func(m api.Machine, _ []int, _ int) ([]any, api.Errno) { v, e := Both(m, all(3)); return []any{v}, e }},
		{"Either", func(m api.Machine, _ []int, _ int) ([]any, api.Errno) { v, e := Either(m, all(3)); return []any{v}, e }},
		{"Same", func(m api.Machine, _ []int, _ int) ([]any, api.Errno) { v, e := Same(m, all(3)); return []any{v}, e }},
		{"Part", func(m api.Machine, _ []int, _ int) ([]any, api.Errno) {
			v, w, e := Part(m, all(3))
			return []any{v, w}, e
		}},
		{"Both second", func(m api.Machine, _ []int, _ int) ([]any, api.Errno) { v, e := Both(all(3), m); return []any{v}, e }},
		{"Either second", func(m api.Machine, _ []int, _ int) ([]any, api.Errno) { v, e := Either(all(3), m); return []any{v}, e }},
		{"Same second", func(m api.Machine, _ []int, _ int) ([]any, api.Errno) { v, e := Same(all(3), m); return []any{v}, e }},
		{"Part second", func(m api.Machine, _ []int, _ int) ([]any, api.Errno) {
			v, w, e := Part(all(3), m)
			return []any{v, w}, e
		}},
	}
}

// Errors of the machine come first, then those of the word or length, and all with zero values.
func TestOrderOfErrors(t *testing.T) {
	fine := with(func(m *api.Machine) {})
	wrong := with(func(m *api.Machine) { m.Accept = nil })
	long := make([]int, 21)
	for _, c := range calls() {
		hasWord := slices.Contains([]string{"Accepts", "Rank", "Round"}, c.name)
		hasLength := slices.Contains([]string{"Count", "Unrank", "CountPoints", "Cheapest"}, c.name)
		for i, k := range []struct {
			m     api.Machine
			word  []int
			n     int
			want  api.Errno
			holds bool // whether the case says something of the function
		}{
			{wrong, long, 0, api.ErrArg, true},
			{ring(65), []int{-1}, 21, api.ErrLarge, true},
			{fine, long, 0, api.ErrLarge, hasWord},
			{fine, append(long, -1), 0, api.ErrLarge, hasWord},
			{fine, []int{0, 2}, 0, api.ErrArg, hasWord},
			{fine, []int{-1, 0}, 0, api.ErrArg, hasWord},
			{fine, []int{math.MaxInt}, 0, api.ErrArg, hasWord},
			{fine, []int{math.MinInt}, 0, api.ErrArg, hasWord},
			{fine, append(long[:19:19], 2), 0, api.ErrArg, hasWord},
			{fine, nil, 21, api.ErrArg, hasLength},
			{fine, nil, -1, api.ErrArg, hasLength},
			{fine, nil, math.MaxInt, api.ErrArg, hasLength},
			{fine, nil, math.MinInt, api.ErrArg, hasLength},
		} {
			if !k.holds {
				continue
			}
			values, e := c.values(k.m, k.word, k.n)
			if e != k.want {
				t.Errorf("%s %d: %v, want %v", c.name, i, e, k.want)
			}
			for _, v := range values {
				if !reflect.ValueOf(v).IsZero() {
					t.Errorf("%s %d: %v with an error", c.name, i, v)
				}
			}
		}
	}
}

// Words and lengths of 20 are not too long.
func TestLimits(t *testing.T) {
	for _, c := range calls() {
		if _, e := c.values(all(3), make([]int, 20), 20); e != api.OK && (c.name != "Unrank" || e != api.ErrNone) {
			t.Error(c.name, e)
		}
	}
}

// No call changes a machine or a word, and equal calls have equal results.
func TestArgumentsStay(t *testing.T) {
	r := rand.New(rand.NewSource(2))
	for range 20 {
		m := someMachine(r, 3, 6)
		before, word := copyOf(m), []int{2, 0, 1}
		for _, c := range calls() {
			first, e := c.values(m, word, 3)
			again, f := c.values(m, word, 3)
			if e != f || !reflect.DeepEqual(first, again) || !same(m, before) || !slices.Equal(word, []int{2, 0, 1}) {
				t.Error(c.name, m, word, first, again, e, f)
			}
		}
	}
}
