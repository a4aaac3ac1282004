package menu

import (
	"math/rand"
	"slices"
	"testing"

	"canteen/api"
)

// P3.2: accepting, and the plain form

func TestAccepts(t *testing.T) {
	m := with(func(m *api.Machine) {})
	for _, c := range []struct {
		word []int
		want bool
	}{
		{nil, true}, {[]int{}, true}, {[]int{0}, true}, {[]int{1}, false}, {[]int{1, 1}, false}, {[]int{1, 0}, true}, {[]int{1, 0, 1}, true}, {[]int{1, 0, 1, 1}, false},
		{slices.Repeat([]int{1}, 20), false}, {slices.Repeat([]int{0}, 20), true},
	} {
		if is, e := Accepts(m, c.word); is != c.want || e != api.OK {
			t.Error(c.word, is, e)
		}
	}
	r := rand.New(rand.NewSource(11))
	for range 100 {
		m := someMachine(r, 2, 9)
		for _, w := range wordsUpTo(2, 7) {
			if is, e := Accepts(m, w); is != reads(m, w) || e != api.OK {
				t.Fatal(m, w, is, e)
			}
		}
	}
}

// plainByWords returns the plain form of a machine of few states: each state is the words that are accepted behind a first word.
func plainByWords(m api.Machine) api.Machine {
	words := wordsUpTo(m.Letters, len(m.Next)-1)
	behind := func(word []int) string {
		var b []byte
		for _, w := range words {
			if reads(m, slices.Concat(word, w)) {
				b = append(b, '1')
			} else {
				b = append(b, '0')
			}
		}
		return string(b)
	}
	var firsts [][]int
	var languages []string
	for _, w := range words {
		if l := behind(w); !slices.Contains(languages, l) {
			firsts = append(firsts, w)
			languages = append(languages, l)
		}
	}
	p := api.Machine{Letters: m.Letters}
	for _, first := range firsts {
		var row []int
		for a := range m.Letters {
			row = append(row, slices.Index(languages, behind(append(slices.Clone(first), a))))
		}
		p.Next = append(p.Next, row)
		p.Accept = append(p.Accept, reads(m, first))
	}
	return p
}

func TestPlain(t *testing.T) {
	for i, c := range []struct{ m, want api.Machine }{
		{all(6), all(6)},
		{ring(64, 63), ring(64, 63)},
		{ring(64, 3, 35), ring(32, 3)},
		{ring(64), ring(1)},
		{ring(6, 0, 1, 2, 3, 4, 5), ring(1, 0)},
		// The second state is not reached, though it is another one.
		{api.Machine{Letters: 2, Next: [][]int{{0, 0}, {1, 1}}, Accept: []bool{true, false}}, all(2)},
		// The states are numbered as words reach them: 0 3, then 1 behind them.
		{
			api.Machine{Letters: 2, Next: [][]int{{3, 2}, {1, 1}, {1, 0}, {0, 1}}, Accept: []bool{true, true, false, false}},
			api.Machine{Letters: 2, Next: [][]int{{1, 2}, {0, 3}, {3, 0}, {3, 3}}, Accept: []bool{true, false, false, true}},
		},
		// The order of the list is not that in which words reach the states.
		{api.Machine{Letters: 1, Next: [][]int{{2}, {0}, {1}}, Accept: []bool{false, false, true}}, ring(3, 1)},
	} {
		if p, e := Plain(c.m); !same(p, c.want) || e != api.OK {
			t.Errorf("%d: %v %v", i, p, e)
		}
	}
}

func TestManyPlain(t *testing.T) {
	r := rand.New(rand.NewSource(12))
	sizes := map[int]int{}
	for i := range 600 {
		m := someMachine(r, 1+i%3, []int{9, 5, 4}[i%3])
		before := copyOf(m)
		p, e := Plain(m)
		if e != api.OK || !same(p, plainByWords(m)) {
			t.Fatal(m, p, e, plainByWords(m))
		}
		sizes[len(m.Next)-len(p.Next)]++
		if !isOwnMemory(p) {
			t.Fatal("memory is shared", p)
		}
		spoil(p)
		if !same(m, before) {
			t.Fatal("memory is shared", m, before)
		}
	}
	if sizes[0] < 50 || sizes[1] < 50 || sizes[2] < 50 {
		t.Error("the machines are too much alike", sizes)
	}
}

// mixed returns a machine with its states, but for the first one, in another order, and each one doubled.
func mixed(r *rand.Rand, m api.Machine) api.Machine {
	n := len(m.Next)
	place := append([]int{0}, r.Perm(2*n-1)...)
	for i := range place[1:] {
		place[i+1]++
	}
	d := api.Machine{Letters: m.Letters, Next: make([][]int, 2*n), Accept: make([]bool, 2*n)}
	for s := range 2 * n {
		row := make([]int, m.Letters)
		for a := range row {
			row[a] = place[m.Next[s%n][a]+n*r.Intn(2)]
		}
		d.Next[place[s]], d.Accept[place[s]] = row, m.Accept[s%n]
	}
	return d
}

// The plain form depends only on the language: it is the same one for larger machines in another order.
func TestPlainIsOne(t *testing.T) {
	r := rand.New(rand.NewSource(13))
	large := 0
	for range 200 {
		m := someMachine(r, 1+r.Intn(6), 32)
		p, e := Plain(m)
		q, f := Plain(mixed(r, m))
		again, g := Plain(p)
		if e != api.OK || f != api.OK || g != api.OK || !same(p, q) || !same(p, again) {
			t.Fatal(m, p, q, again, e, f, g)
		}
		if len(p.Next) > 10 {
			large++
		}
	}
	if large < 50 {
		t.Error("the machines are too small", large)
	}
}
