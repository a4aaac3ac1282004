package menu

import (
	"math/rand"
	"reflect"
	"slices"
	"testing"

	"canteen/api"
)

// P3.2: sets of words

// isPlain reports whether a machine is its own plain form.
func isPlain(m api.Machine) bool {
	p, e := Plain(m)
	return e == api.OK && same(p, m)
}

// checkSet reports whether a machine is plain and accepts of all words up to a length those that it should, and is its own memory.
func checkSet(m api.Machine, letters, length int, should func(word []int) bool) bool {
	if m.Letters != letters || !isPlain(m) || !isOwnMemory(m) {
		return false
	}
	for _, w := range wordsUpTo(letters, length) {
		if reads(m, w) != should(w) {
			return false
		}
	}
	return true
}

func TestNot(t *testing.T) {
	if m, e := Not(ring(4, 1, 2, 3)); !same(m, ring(4, 0)) || e != api.OK {
		t.Error(m, e)
	}
	if m, e := Not(all(6)); len(m.Next) != 1 || m.Accept[0] || e != api.OK {
		t.Error(m, e)
	}
	r := rand.New(rand.NewSource(21))
	for range 200 {
		m := someMachine(r, 2, 6)
		before := copyOf(m)
		n, e := Not(m)
		if e != api.OK || !checkSet(n, 2, 6, func(w []int) bool { return !reads(m, w) }) {
			t.Fatal(m, n, e)
		}
		spoil(n)
		if !same(m, before) {
			t.Fatal("memory is shared", m)
		}
	}
}

func TestBothAndEither(t *testing.T) {
	r := rand.New(rand.NewSource(22))
	sizes := map[int]int{}
	for range 300 {
		a, b := someMachine(r, 2, 4), someMachine(r, 2, 4)
		c, d := copyOf(a), copyOf(b)
		both, e := Both(a, b)
		if e != api.OK || !checkSet(both, 2, 8, func(w []int) bool { return reads(a, w) && reads(b, w) }) {
			t.Fatal(a, b, both, e)
		}
		sizes[len(both.Next)]++
		either, e := Either(a, b)
		if e != api.OK || !checkSet(either, 2, 8, func(w []int) bool { return reads(a, w) || reads(b, w) }) {
			t.Fatal(a, b, either, e)
		}
		spoil(both)
		spoil(either)
		if !same(a, c) || !same(b, d) {
			t.Fatal("memory is shared", a, b)
		}
	}
	if len(sizes) < 8 {
		t.Error("the machines are too much alike", sizes)
	}
}

// The limit is that of the plain form, not of what is tried on the way.
func TestTooManyStates(t *testing.T) {
	for i, c := range []struct {
		a, b   api.Machine
		states int // of the words that both accept; 0: too many
	}{
		{ring(64, 0), ring(8, 0), 64},
		{ring(64, 0), ring(64, 0), 64},
		{ring(9, 0), ring(7, 0), 63},
		{ring(13, 0), ring(5, 0), 0}, // 65
		{ring(64, 0), ring(3, 0), 0},
		{ring(64, 0), ring(63, 0), 0},
		{ring(64, 0), ring(63), 1},
		{ring(64), ring(63), 1},
		{ring(61, 0, 1), ring(64, upTo(64)...), 61},
	} {
		m, e := Both(c.a, c.b)
		if c.states == 0 && (e != api.ErrLarge || !reflect.ValueOf(m).IsZero()) {
			t.Errorf("%d: %v %v", i, m, e)
		}
		if c.states > 0 && (e != api.OK || len(m.Next) != c.states) {
			t.Errorf("%d: %v %v", i, m, e)
		}
		// Neither of two is what is not one of them.
		a, e := Not(c.a)
		b, f := Not(c.b)
		n, g := Either(a, b)
		if e != api.OK || f != api.OK || g != api.OK && c.states > 0 || g != api.ErrLarge && c.states == 0 || len(n.Next) != c.states {
			t.Errorf("%d: %v %v %v %v", i, n, e, f, g)
		}
	}
	// Other errors come before this one.
	if m, e := Both(ring(65), ring(64)); e != api.ErrLarge || len(m.Next) > 0 {
		t.Error(m, e)
	}
}

// upTo returns the numbers from 0 to n - 1.
func upTo(n int) []int {
	var l []int
	for x := range n {
		l = append(l, x)
	}
	return l
}

// Machines with different letters are refused, after their own errors.
func TestDifferentLetters(t *testing.T) {
	wrong := ring(3)
	wrong.Accept = nil
	for i, c := range []struct {
		a, b api.Machine
		want api.Errno
	}{
		{all(2), all(3), api.ErrArg},
		{all(3), all(2), api.ErrArg},
		{all(2), ring(65), api.ErrLarge},
		{ring(65), wrong, api.ErrLarge},
		{wrong, ring(65), api.ErrArg},
		{all(2), wrong, api.ErrArg},
	} {
		both, e := Both(c.a, c.b)
		either, f := Either(c.a, c.b)
		is, g := Same(c.a, c.b)
		word, parted, h := Part(c.a, c.b)
		if e != c.want || f != c.want || g != c.want || h != c.want {
			t.Errorf("%d: %v %v %v %v", i, e, f, g, h)
		}
		if !reflect.ValueOf(both).IsZero() || !reflect.ValueOf(either).IsZero() || is || word != nil || parted {
			t.Errorf("%d: %v %v %v %v %v", i, both, either, is, word, parted)
		}
	}
}

// firstParting returns the first word of at most n letters that exactly one of two machines accepts.
func firstParting(a, b api.Machine, n int) ([]int, bool) {
	for _, w := range wordsUpTo(a.Letters, n) {
		if reads(a, w) != reads(b, w) {
			return w, true
		}
	}
	return nil, false
}

func TestPart(t *testing.T) {
	r := rand.New(rand.NewSource(23))
	lengths := map[int]int{}
	for i := range 900 {
		letters := 1 + i%3
		states := []int{4, 4, 3}[i%3]
		a, b := someMachine(r, letters, states), someMachine(r, letters, states)
		if i%4 > 0 {
			b = mixed(r, a)
		}
		if i%4 > 1 {
			// One state is another one: machines that are nearly the same part late.
			s := r.Intn(len(b.Next))
			b.Accept[s] = !b.Accept[s]
		}
		// Machines that accept the same words up to this length accept the same words.
		want, parted := firstParting(a, b, len(a.Next)+len(b.Next)-2)
		w, is, e := Part(a, b)
		if !slices.Equal(w, want) || is != parted || e != api.OK {
			t.Fatal(a, b, w, is, e, want)
		}
		if s, e := Same(a, b); s == parted || e != api.OK {
			t.Fatal(a, b, s, e)
		}
		if is {
			lengths[len(w)]++
		} else {
			lengths[-1]++
		}
	}
	if lengths[-1] < 50 || lengths[0] < 50 || lengths[1] < 50 || lengths[2] < 20 || lengths[3] < 5 {
		t.Error("the machines are too much alike", lengths)
	}
}

// Of words of one length the first one parts, and of words of several lengths the shortest one.
func TestPartOrder(t *testing.T) {
	only := func(words ...[]int) api.Machine {
		m := all(3)
		for _, w := range words {
			// A machine that refuses one word alone: a state for each letter of it, lost and found.
			one := api.Machine{Letters: 3}
			for i, a := range w {
				row := slices.Repeat([]int{len(w) + 1}, 3)
				row[a] = i + 1
				one.Next, one.Accept = append(one.Next, row), append(one.Accept, true)
			}
			one.Next = append(one.Next, slices.Repeat([]int{len(w) + 1}, 3), slices.Repeat([]int{len(w) + 1}, 3))
			one.Accept = append(one.Accept, false, true)
			m = good(t)(Both(m, one))
		}
		return m
	}
	for _, c := range []struct {
		refused [][]int
		want    []int
	}{
		{[][]int{{2}, {0, 0}}, []int{2}},
		{[][]int{{2, 0}, {1, 2}}, []int{1, 2}},
		{[][]int{{1, 0, 2}, {1, 0, 1}, {0, 0, 0, 0}}, []int{1, 0, 1}},
		{[][]int{{2, 2, 1}, {2, 1, 2}, {}}, []int{}},
		{[][]int{{2, 1, 0, 2, 1}}, []int{2, 1, 0, 2, 1}},
		{[][]int{slices.Repeat([]int{1, 2}, 10)}, slices.Repeat([]int{1, 2}, 10)},
		{[][]int{slices.Repeat([]int{2, 1}, 20)}, slices.Repeat([]int{2, 1}, 20)},
	} {
		w, parted, e := Part(only(c.refused...), all(3))
		if !slices.Equal(w, c.want) || !parted || e != api.OK {
			t.Error(c.refused, w, parted, e)
		}
	}
}

// A word that parts machines may be as long as both have states together, less two.
func TestPartLong(t *testing.T) {
	a, b := ring(64, 63), ring(64, 63)
	b.Next[63][0] = 1
	if w, parted, e := Part(a, b); !slices.Equal(w, make([]int, 126)) || !parted || e != api.OK {
		t.Error(w, parted, e)
	}
	if is, e := Same(a, b); is || e != api.OK {
		t.Error(is, e)
	}
	if w, parted, e := Part(ring(64, 63), ring(63, 62)); len(w) != 62 || !parted || e != api.OK {
		t.Error(w, parted, e)
	}
	if w, parted, e := Part(ring(64), ring(63)); w != nil || parted || e != api.OK {
		t.Error(w, parted, e)
	}
}
