package menu

import (
	"math"
	"math/rand"
	"slices"
	"testing"

	"canteen/api"
)

// P3.5

func TestRound(t *testing.T) {
	apart, most := good(t)(Apart(2, 2)), good(t)(Most(2, 0, 2))
	end := ring(64, upTo(63)...) // it refuses what has 63 letters
	begin := ring(64, upTo(64)[1:]...)
	for _, c := range []struct {
		m    api.Machine
		word []int
		want bool
	}{
		{apart, []int{0, 1}, true},
		{apart, []int{0, 1, 0}, false},
		{apart, []int{0}, false},
		{apart, nil, true},
		{apart, []int{}, true},
		{most, []int{0, 1}, false},
		{most, []int{1, 1}, true},
		{end, []int{0}, false},
		{end, []int{0, 0}, true},
		{end, []int{0, 0, 0}, false},
		{end, nil, true},
		{begin, []int{0}, false}, // after 64 times only
		{begin, make([]int, 19), false},
		{begin, nil, false},
		{ring(2, 0), nil, true},
		{ring(2, 0), []int{0, 0}, true},
		{ring(2, 1), nil, false},
		{ring(2, 1), []int{0}, false},
		// The empty word need not be accepted for another one to go round.
		{api.Machine{Letters: 1, Next: [][]int{{1}, {1}}, Accept: []bool{false, true}}, []int{0}, true},
		{api.Machine{Letters: 1, Next: [][]int{{1}, {1}}, Accept: []bool{false, true}}, nil, false},
	} {
		if is, e := Round(c.m, c.word); is != c.want || e != api.OK {
			t.Error(c, is, e)
		}
	}
	r := rand.New(rand.NewSource(51))
	seen := map[bool]int{}
	for range 500 {
		m := someMachine(r, 3, 9)
		word := make([]int, r.Intn(6))
		for i := range word {
			word[i] = r.Intn(3)
		}
		want := true
		for k := 1; k <= 30; k++ {
			want = want && reads(m, slices.Repeat(word, k))
		}
		if is, e := Round(m, word); is != want || e != api.OK {
			t.Fatal(m, word, is, e)
		}
		seen[want]++
	}
	if seen[true] < 100 || seen[false] < 100 {
		t.Error("the machines are too much alike", seen)
	}
}

// turns returns all words that come from a word by turning it round.
func turns(word []int) [][]int {
	l := [][]int{word}
	for range word {
		last := l[len(l)-1]
		l = append(l, append(slices.Clone(last[1:]), last[0]))
	}
	return l
}

func TestFirst(t *testing.T) {
	for _, c := range []struct{ word, want []int }{
		{nil, nil},
		{[]int{}, nil},
		{[]int{5}, []int{5}},
		{[]int{2, 1}, []int{1, 2}},
		{[]int{1, 0, 0}, []int{0, 0, 1}},
		{[]int{0, 1, 0, 0, 1}, []int{0, 0, 1, 0, 1}},
		{[]int{0, 1, 0, 1}, []int{0, 1, 0, 1}},
		{append(slices.Repeat([]int{5}, 19), 0), append([]int{0}, slices.Repeat([]int{5}, 19)...)},
	} {
		if w, e := First(c.word); !slices.Equal(w, c.want) || e != api.OK {
			t.Error(c, w, e)
		}
	}
	for letters, n := range map[int]int{2: 9, 3: 6, 6: 4} {
		for _, word := range wordsUpTo(letters, n) {
			before := slices.Clone(word)
			w, e := First(word)
			if want := slices.MinFunc(turns(word), slices.Compare[[]int]); !slices.Equal(w, want) || e != api.OK {
				t.Fatal(word, w, e, want)
			}
			for i := range w {
				w[i] = -7
			}
			if !slices.Equal(word, before) {
				t.Fatal("memory is shared", word)
			}
		}
	}
	for _, c := range []struct {
		word []int
		want api.Errno
	}{
		{make([]int, 20), api.OK},
		{make([]int, 21), api.ErrLarge},
		{slices.Repeat([]int{6}, 21), api.ErrLarge},
		{[]int{6}, api.ErrArg},
		{[]int{0, -1}, api.ErrArg},
		{[]int{math.MaxInt, 0}, api.ErrArg},
		{[]int{0, math.MinInt}, api.ErrArg},
		{slices.Repeat([]int{6}, 20), api.ErrArg},
	} {
		if w, e := First(c.word); e != c.want || e != api.OK && w != nil {
			t.Error(c, w, e)
		}
	}
}
