package dish

import (
	"math"
	"math/rand"
	"reflect"
	"slices"
	"testing"

	"canteen/api"
)

// P2.4

func TestFollows(t *testing.T) {
	for _, c := range []struct {
		rule api.Rule
		want bool
	}{
		{api.Rule{If: []int{0, 1}, Then: 2}, true},
		{api.Rule{If: []int{0, 1, 3}, Then: 5}, true},
		{api.Rule{If: []int{0, 1, 4}, Then: 5}, false},
		{api.Rule{If: []int{0}, Then: 2}, false},
		{api.Rule{If: []int{4}, Then: 4}, true},
		{api.Rule{Then: 0}, false},
		{api.Rule{If: upTo(6), Then: 5}, true},
	} {
		if is, e := Follows(bread(), c.rule); is != c.want || e != api.OK {
			t.Error(c.rule, is, e)
		}
	}
	for _, r := range []api.Rule{
		{Then: 6}, {Then: -1}, {Then: math.MaxInt}, {If: []int{6}}, {If: []int{-1}}, {If: []int{1, 1}}, {If: []int{1, 0}}, {If: []int{1, 0}, Then: 1},
	} {
		if is, e := Follows(bread(), r); is || e != api.ErrArg {
			t.Error(r, is, e)
		}
	}
	// A rule without If gives its property always.
	if is, e := Follows(ofRules(2, api.Rule{Then: 1}), api.Rule{Then: 1}); !is || e != api.OK {
		t.Error(is, e)
	}
}

func TestReduce(t *testing.T) {
	rule := func(then int, of ...int) api.Rule { return api.Rule{If: of, Then: then} }
	for i, c := range []struct{ rules, want []api.Rule }{
		{nil, nil},
		{[]api.Rule{rule(1, 0), rule(2, 1), rule(2, 0)}, []api.Rule{rule(1, 0), rule(2, 1)}},
		{[]api.Rule{rule(2, 0), rule(1, 0), rule(2, 1)}, []api.Rule{rule(1, 0), rule(2, 1)}},
		{[]api.Rule{rule(1, 0), rule(1, 0), rule(1, 0)}, []api.Rule{rule(1, 0)}},
		{[]api.Rule{rule(1, 0, 2), rule(1, 0)}, []api.Rule{rule(1, 0)}},
		{[]api.Rule{rule(1, 0, 1)}, nil},
		{[]api.Rule{rule(1), rule(1, 0)}, []api.Rule{rule(1)}},
		{[]api.Rule{rule(1, 0), rule(1)}, []api.Rule{rule(1)}},
		// 0, 1 and 2 follow from each other: of the ways to say so the first rules stay.
		{[]api.Rule{rule(1, 0), rule(2, 1), rule(0, 2), rule(2, 0), rule(0, 1), rule(1, 2)}, []api.Rule{rule(1, 0), rule(2, 1), rule(0, 2)}},
		{[]api.Rule{rule(2, 0), rule(0, 1), rule(1, 2), rule(1, 0), rule(2, 1), rule(0, 2)}, []api.Rule{rule(2, 0), rule(0, 1), rule(1, 2)}},
		// The last one is tried first: without it the one before it is needed.
		{[]api.Rule{rule(1, 0), rule(2, 0, 1), rule(2, 0)}, []api.Rule{rule(1, 0), rule(2, 0, 1)}},
	} {
		b := api.Book{Props: 3, Items: []api.Item{{}, {Parts: []int{0}, Has: []int{1, 2}}}, Rules: c.rules}
		want := api.Book{Props: 3, Items: b.Items, Rules: c.want}
		if got, e := Reduce(b); !sameBook(got, want) || e != api.OK {
			t.Errorf("%d: %v %v, want %v", i, got, e, want)
		}
	}
}

// The rules of many books are reduced as the chapter says it, closures stay, and the result is memory of its own.
func TestManyReduced(t *testing.T) {
	r := rand.New(rand.NewSource(41))
	less := 0
	for range 300 {
		b := someBook(r, 5, 5, 10)
		before := copyOf(b)
		got, e := Reduce(b)
		want := slices.Clone(b.Rules)
		for i := len(want) - 1; i >= 0; i-- {
			others := append(slices.Clone(want[:i]), want[i+1:]...)
			if slices.Contains(smallestClosed(ofRules(b.Props, others...), want[i].If), want[i].Then) {
				want = others
			}
		}
		if e != api.OK || !sameBook(got, api.Book{Props: b.Props, Items: b.Items, Rules: want}) {
			t.Fatal(b, got, e, want)
		}
		for m := range 1 << b.Props {
			if isClosed(b, m) != isClosed(got, m) {
				t.Fatal(b, got, m)
			}
		}
		if len(got.Rules) < len(b.Rules) {
			less++
		}
		if !isOwnMemory(got) {
			t.Fatal("memory is shared", got)
		}
		spoil(got)
		if !sameBook(b, before) {
			t.Fatal("memory is shared", b, before)
		}
	}
	if less < 100 || less > 250 {
		t.Error("the books are too much alike", less)
	}
}

func TestClosed(t *testing.T) {
	for _, c := range []struct {
		book api.Book
		want int
	}{
		{ofRules(3, api.Rule{If: []int{0}, Then: 1}, api.Rule{If: []int{1}, Then: 2}, api.Rule{If: []int{0}, Then: 2}), 4},
		{api.Book{}, 1},
		{api.Book{Props: 1}, 2},
		{api.Book{Props: 10}, 1024},
		{ofRules(1, api.Rule{Then: 0}), 1},
		{ofRules(10, api.Rule{Then: 9}), 512},
		{ofRules(10, api.Rule{If: upTo(9), Then: 9}), 1023},
		{ofRules(2, api.Rule{If: []int{1}, Then: 1}), 4},
		{bread(), 64 - 8 - 8}, // without 2 but with 0 and 1; without 5 but with 2 and 3
	} {
		if n, e := Closed(c.book); n != c.want || e != api.OK {
			t.Error(c, n, e)
		}
	}
	r := rand.New(rand.NewSource(42))
	for range 300 {
		b := someBook(r, 7, 0, 9)
		want := 0
		for m := range 1 << b.Props {
			if isClosed(b, m) {
				want++
			}
		}
		if n, e := Closed(b); n != want || e != api.OK {
			t.Fatal(b, n, e, want)
		}
	}
}

// An invalid book gives no reduced one.
func TestReduceInvalid(t *testing.T) {
	for want, b := range map[api.Errno]api.Book{api.ErrArg: ofRules(3, api.Rule{Then: 3}), api.ErrLarge: ofRules(3, make([]api.Rule, 17)...)} {
		if got, e := Reduce(b); e != want || !reflect.ValueOf(got).IsZero() {
			t.Error(got, e, want)
		}
		if n, e := Closed(b); e != want || n != 0 {
			t.Error(n, e, want)
		}
	}
}
