package dish

import (
	"math"
	"math/rand"
	"reflect"
	"slices"
	"testing"

	"canteen/api"
)

// P2.5

func TestExchange(t *testing.T) {
	for i, c := range []struct {
		swaps []api.Swap
		item  int
		want  []int // the parts of the item
	}{
		{nil, 4, []int{1, 2}},
		{[]api.Swap{{Item: 2, By: 0}}, 4, []int{0, 1}},
		{[]api.Swap{{Item: 2, By: 1}}, 4, []int{1}},
		{[]api.Swap{{Item: 1, By: 2}}, 4, []int{2}},
		{[]api.Swap{{Item: 1, By: 3}}, 4, []int{2, 3}},
		{[]api.Swap{{Item: 1, By: 1}}, 4, []int{1, 2}},
		{[]api.Swap{{Item: 0, By: 1}}, 2, []int{1}},
		{[]api.Swap{{Item: 2, By: 0}, {Item: 0, By: 1}}, 4, []int{1}},
		{[]api.Swap{{Item: 0, By: 1}, {Item: 2, By: 0}}, 4, []int{0, 1}},
		{[]api.Swap{{Item: 1, By: 0}, {Item: 0, By: 1}}, 4, []int{1, 2}},
		{[]api.Swap{{Item: 4, By: 0}}, 5, []int{0, 3}},
		// What is no part anywhere is exchanged by anything.
		{[]api.Swap{{Item: 6, By: 5}, {Item: 5, By: 6}, {Item: 6, By: 6}}, 5, []int{3, 4}},
		{[]api.Swap{{Item: 0, By: 1}, {Item: 0, By: 6}}, 2, []int{1}},
		{slices.Repeat([]api.Swap{{Item: 1, By: 3}}, 8), 4, []int{2, 3}},
	} {
		got, e := Exchange(bread(), c.swaps)
		if e != api.OK || Validate(got) != api.OK || !slices.Equal(got.Items[c.item].Parts, c.want) {
			t.Errorf("%d: %v %v", i, got, e)
		}
	}
}

// An item is exchanged wherever it is a part, and nothing else changes.
func TestExchangeEverywhere(t *testing.T) {
	b := ofItems(2, api.Item{Has: []int{0}}, api.Item{Has: []int{1}}, api.Item{Parts: []int{0}}, api.Item{Parts: []int{0, 1, 2}, Has: []int{0}}, api.Item{Parts: []int{0, 3}}, api.Item{Parts: []int{2, 4}})
	b.Rules = []api.Rule{{If: []int{0}, Then: 1}}
	want := copyOf(b)
	want.Items[2].Parts, want.Items[3].Parts, want.Items[4].Parts = []int{1}, []int{1, 2}, []int{1, 3}
	if got, e := Exchange(b, []api.Swap{{Item: 0, By: 1}}); !sameBook(got, want) || e != api.OK {
		t.Error(got, e)
	}
}

func TestExchangeErrors(t *testing.T) {
	late, missing := api.Swap{Item: 0, By: 2}, api.Swap{Item: 0, By: 7}
	for i, c := range []struct {
		swaps []api.Swap
		want  api.Errno
	}{
		{make([]api.Swap, 9), api.ErrLarge},
		{slices.Repeat([]api.Swap{missing}, 9), api.ErrLarge},
		{slices.Repeat([]api.Swap{late}, 9), api.ErrLarge},
		{[]api.Swap{missing}, api.ErrNone},
		{[]api.Swap{{Item: 7}}, api.ErrNone},
		{[]api.Swap{{Item: -1}}, api.ErrNone},
		{[]api.Swap{{By: -1}}, api.ErrNone},
		{[]api.Swap{{Item: math.MaxInt, By: math.MinInt}}, api.ErrNone},
		{[]api.Swap{late, missing}, api.ErrNone},
		{[]api.Swap{late}, api.ErrOrder},                               // an item is not later than itself
		{[]api.Swap{{Item: 0, By: 6}}, api.ErrOrder},                   // 6 is later than 2
		{[]api.Swap{{Item: 3, By: 5}}, api.ErrOrder},                   // 3 is a part of 5
		{[]api.Swap{{Item: 1, By: 3}, late}, api.ErrOrder},             // the second one
		{[]api.Swap{{Item: 1, By: 6}}, api.ErrOrder},                   // no longer the first part
		{[]api.Swap{{Item: 2, By: 0}, late}, api.ErrOrder},             // 0 is still a part of 2
		{[]api.Swap{{Item: 0, By: 1}, late}, api.OK},                   // 0 is no part any more
		{[]api.Swap{{Item: 2, By: 3}, {Item: 2, By: 5}}, api.OK},       // 2 is no part any more
		{[]api.Swap{{Item: 4, By: 2}, {Item: 2, By: 4}}, api.ErrOrder}, // 2 is a part of 4
		{slices.Repeat([]api.Swap{{Item: 0, By: 0}}, 8), api.OK},
	} {
		got, e := Exchange(bread(), c.swaps)
		if e != c.want || e != api.OK && !reflect.ValueOf(got).IsZero() {
			t.Errorf("%d: %v %v, want %v", i, got, e, c.want)
		}
	}
	if got, e := Exchange(api.Book{}, []api.Swap{{}}); e != api.ErrNone || !reflect.ValueOf(got).IsZero() {
		t.Error(got, e)
	}
}

// exchanged does swaps as the chapter says it, with sets as maps.
func exchanged(b api.Book, swaps []api.Swap) (api.Book, bool) {
	b = copyOf(b)
	for _, s := range swaps {
		for i := range b.Items {
			parts := map[int]bool{}
			for _, p := range b.Items[i].Parts {
				parts[p] = true
			}
			if parts[s.Item] {
				delete(parts, s.Item)
				parts[s.By] = true
				if s.By >= i {
					return api.Book{}, false
				}
			}
			b.Items[i].Parts = nil
			for p := range i {
				if parts[p] {
					b.Items[i].Parts = append(b.Items[i].Parts, p)
				}
			}
		}
	}
	return b, true
}

// someSwaps returns swaps of earlier and later items.
func someSwaps(r *rand.Rand, items, most int) []api.Swap {
	var l []api.Swap
	for range r.Intn(most + 1) {
		s := api.Swap{Item: r.Intn(items), By: r.Intn(items)}
		if s.By > s.Item && r.Intn(2) == 0 {
			s.Item, s.By = s.By, s.Item
		}
		l = append(l, s)
	}
	return l
}

// Items of many books are exchanged as the chapter says it, and the result is memory of its own.
func TestManyExchanged(t *testing.T) {
	r := rand.New(rand.NewSource(51))
	fine := 0
	for range 500 {
		b := someBook(r, 5, 9, 3)
		if len(b.Items) == 0 {
			continue
		}
		swaps := someSwaps(r, len(b.Items), 3)
		before, done := copyOf(b), slices.Clone(swaps)
		want, ok := exchanged(b, swaps)
		got, e := Exchange(b, swaps)
		if ok && e != api.OK || !ok && e != api.ErrOrder || !sameBook(got, want) {
			t.Fatal(b, swaps, got, e, want)
		}
		if !ok {
			continue
		}
		fine++
		if !isOwnMemory(got) {
			t.Fatal("memory is shared", got)
		}
		spoil(got)
		if !sameBook(b, before) || !slices.Equal(swaps, done) {
			t.Fatal("an argument is changed", b, before, swaps, done)
		}
	}
	if fine < 100 || fine > 400 {
		t.Error("the books are too much alike", fine)
	}
}

func TestFewest(t *testing.T) {
	swap := func(item, by int) api.Swap { return api.Swap{Item: item, By: by} }
	for i, c := range []struct {
		item        int
		avoid       []int
		swaps       []api.Swap
		want        []int
		impossible  bool
		explanation string
	}{
		{4, nil, nil, nil, false, "nothing to avoid"},
		{4, []int{3}, []api.Swap{swap(1, 3)}, nil, false, "the label has none of it"},
		{6, upTo(6), nil, nil, false, "the label is empty"},
		{4, []int{4}, []api.Swap{swap(1, 0), swap(2, 1)}, nil, true, "the item has it by itself"},
		{4, []int{2}, nil, nil, true, "no swaps"},
		{4, []int{2}, []api.Swap{swap(1, 3)}, []int{0}, false, "2 follows no more"},
		{4, []int{2}, []api.Swap{swap(1, 3), swap(2, 1)}, []int{0}, false, "of two ways the first one"},
		{4, []int{0}, []api.Swap{swap(1, 3), swap(2, 1), swap(0, 1)}, []int{1}, false, "one swap"},
		{4, []int{0, 1}, []api.Swap{swap(2, 3), swap(1, 3)}, []int{0, 1}, false, "both"},
		{4, []int{0, 1}, []api.Swap{swap(2, 1), swap(1, 3), swap(2, 3)}, []int{0, 1}, false, "before 1 and 2"},
		{4, []int{0, 1}, []api.Swap{swap(1, 3), swap(2, 1), swap(2, 3)}, []int{0, 2}, false, "the order matters"},
		{5, []int{5}, []api.Swap{swap(3, 6), swap(4, 2)}, []int{1}, false, "the first one has an error"},
		{5, []int{1}, []api.Swap{swap(0, 6), swap(1, 3)}, []int{1}, false, "an error is left out"},
		{2, []int{0}, []api.Swap{swap(0, 6), swap(0, 2)}, nil, true, "all have errors"},
		{0, []int{0}, []api.Swap{swap(0, 1)}, nil, true, "a dish is not exchanged for another"},
		{2, []int{0, 1}, []api.Swap{swap(0, 1), swap(0, 0), swap(1, 0)}, nil, true, "from one to the other"},
	} {
		got, is, e := Fewest(bread(), c.item, c.avoid, c.swaps)
		if !slices.Equal(got, c.want) || is == c.impossible || e != api.OK {
			t.Errorf("%d (%s): %v %v %v", i, c.explanation, got, is, e)
		}
	}
}

// Of sets of the same size the first one in ascending order is returned: 0 3 is before 1 2.
func TestFewestFirst(t *testing.T) {
	// The dish 4 has the part 3, which two ways of two swaps exchange for 0, by 1 and by 2.
	bad := api.Item{Has: []int{0}}
	b := ofItems(1, api.Item{}, bad, bad, bad, api.Item{Parts: []int{3}})
	for i, c := range []struct {
		swaps []api.Swap
		want  []int
	}{
		{[]api.Swap{{Item: 3, By: 1}, {Item: 3, By: 2}, {Item: 2, By: 0}, {Item: 1, By: 0}}, []int{0, 3}},
		{[]api.Swap{{Item: 3, By: 1}, {Item: 1, By: 0}, {Item: 3, By: 2}, {Item: 2, By: 0}}, []int{0, 1}},
		{[]api.Swap{{Item: 1, By: 0}, {Item: 3, By: 1}, {Item: 3, By: 2}, {Item: 2, By: 0}}, []int{2, 3}},
		{[]api.Swap{{Item: 3, By: 1}, {Item: 3, By: 2}, {Item: 2, By: 0}, {Item: 1, By: 0}, {Item: 3, By: 0}}, []int{4}},
	} {
		if got, is, e := Fewest(b, 4, []int{0}, c.swaps); !slices.Equal(got, c.want) || !is || e != api.OK {
			t.Errorf("%d: %v %v %v", i, got, is, e)
		}
	}
}

func TestFewestErrors(t *testing.T) {
	large, missing, late := make([]api.Swap, 9), []api.Swap{{Item: 7}}, []api.Swap{{Item: 0, By: 2}}
	for i, c := range []struct {
		item  int
		avoid []int
		swaps []api.Swap
		want  api.Errno
	}{
		{7, []int{6}, large, api.ErrNone},
		{-1, nil, nil, api.ErrNone},
		{math.MinInt, nil, nil, api.ErrNone},
		{0, []int{6}, large, api.ErrArg},
		{0, []int{-1}, missing, api.ErrArg},
		{0, []int{1, 1}, nil, api.ErrArg},
		{0, []int{1, 0}, nil, api.ErrArg},
		{0, nil, append(large, missing...), api.ErrLarge},
		{6, nil, large, api.ErrLarge},
		{6, nil, missing, api.ErrNone},
		{6, nil, []api.Swap{{By: -1}}, api.ErrNone},
		{6, nil, append(late, missing...), api.ErrNone},
		{6, nil, late, api.OK},
	} {
		got, is, e := Fewest(bread(), c.item, c.avoid, c.swaps)
		if got != nil || is != (c.want == api.OK) || e != c.want {
			t.Errorf("%d: %v %v %v, want %v", i, got, is, e, c.want)
		}
	}
}

// firstChoice tries the sets of numbers below end in the order of their sizes and then in ascending order.
func firstChoice(end, size int, chosen []int, fits func(chosen []int) bool) ([]int, bool) {
	if len(chosen) == size {
		return chosen, fits(chosen)
	}
	next := 0
	if len(chosen) > 0 {
		next = chosen[len(chosen)-1] + 1
	}
	for ; next < end; next++ {
		if found, is := firstChoice(end, size, append(slices.Clone(chosen), next), fits); is {
			return found, true
		}
	}
	return nil, false
}

// someDish returns a book whose last item has no property by itself, and the more parts that have one.
func someDish(r *rand.Rand) api.Book {
	b := api.Book{Props: 3}
	for i := range 8 {
		item := api.Item{}
		if i > 0 && i < 7 {
			item.Has = []int{r.Intn(b.Props)}
		}
		if i == 7 {
			item.Parts = someSet(r, i, 4)
		} else if i > 4 {
			item.Parts = someSet(r, i, 2)
		}
		b.Items = append(b.Items, item)
	}
	if r.Intn(3) == 0 {
		b.Rules = append(b.Rules, api.Rule{If: []int{r.Intn(b.Props)}, Then: r.Intn(b.Props)})
	}
	return b
}

// swapsOf returns swaps most of which concern what an item contains.
func swapsOf(r *rand.Rand, b api.Book, item int) []api.Swap {
	in, _ := Contains(b, item)
	var l []api.Swap
	for range r.Intn(api.MaxSwaps + 1) {
		s := api.Swap{Item: in[r.Intn(len(in))], By: r.Intn(len(b.Items))}
		if r.Intn(2) == 0 {
			s.By = r.Intn(2)
		}
		l = append(l, s)
	}
	return l
}

// Fewest returns for many books the first choice of all.
func TestManyFewest(t *testing.T) {
	r := rand.New(rand.NewSource(52))
	sizes, impossible := map[int]int{}, 0
	for range 1500 {
		b := someDish(r)
		before, item := copyOf(b), len(b.Items)-1
		avoid, swaps := someSet(r, b.Props, 3), swapsOf(r, b, item)
		fits := func(chosen []int) bool {
			var done []api.Swap
			for _, n := range chosen {
				done = append(done, swaps[n])
			}
			x, ok := exchanged(b, done)
			if !ok {
				return false
			}
			label, _ := Label(x, item)
			return !slices.ContainsFunc(label, func(p int) bool { return slices.Contains(avoid, p) })
		}
		var want []int
		found := false
		for size := 0; size <= len(swaps) && !found; size++ {
			want, found = firstChoice(len(swaps), size, nil, fits)
		}
		got, is, e := Fewest(b, item, avoid, swaps)
		if e != api.OK || is != found || is && !slices.Equal(got, want) || !is && got != nil {
			t.Fatal(b, item, avoid, swaps, got, is, e, want, found)
		}
		if !sameBook(b, before) {
			t.Fatal("an argument is changed", b, before)
		}
		if !found {
			impossible++
			continue
		}
		sizes[len(want)]++
	}
	if impossible < 100 || sizes[0] < 100 || sizes[1] < 100 || sizes[2] < 30 || sizes[3] < 5 {
		t.Error("the books are too much alike", sizes, impossible)
	}
}
