package order

import (
	"math"
	"math/rand"
	"slices"
	"testing"

	"canteen/api"
)

// example is the table of the chapter.
func example() []api.Fact {
	return []api.Fact{{At: 10, Child: 1, From: 0, To: 5, Meal: 2}, {At: 20, Child: 1, From: 3, To: 4, Meal: 0}}
}

// randomTable returns a table of few children, days, minutes and meals, so that its facts meet.
func randomTable(r *rand.Rand, facts, children, days, minutes, meals int) []api.Fact {
	l := make([]api.Fact, facts)
	for i := range l {
		from := r.Intn(days)
		l[i] = api.Fact{At: r.Intn(minutes), Child: r.Intn(children), From: from, To: from + 1 + r.Intn(days-from), Meal: r.Intn(meals + 1)}
	}
	slices.SortStableFunc(l, func(a, b api.Fact) int { return a.At - b.At })
	return l
}

// reasonByDefinition returns the number of the last fact by which something is known, or -1.
func reasonByDefinition(l []api.Fact, at, child, day int) int {
	number := -1
	for i, f := range l {
		if f.At <= at && f.Child == child && f.From <= day && day < f.To {
			number = i
		}
	}
	return number
}

// knownByDefinition returns the meal that is known.
func knownByDefinition(l []api.Fact, at, child, day int) int {
	if i := reasonByDefinition(l, at, child, day); i >= 0 {
		return l[i].Meal
	}
	return 0
}

// factWith returns a fact at the minute 20 with one field changed.
func factWith(change func(f *api.Fact)) api.Fact {
	f := api.Fact{At: 20, Child: 3, From: 4, To: 7, Meal: 5}
	change(&f)
	return f
}

// wrongFacts are facts that no table can have.
func wrongFacts() []api.Fact {
	var l []api.Fact
	for _, x := range []int{-1, math.MinInt, math.MaxInt} {
		l = append(l,
			factWith(func(f *api.Fact) { f.At = x }),
			factWith(func(f *api.Fact) { f.Child = x }),
			factWith(func(f *api.Fact) { f.From = x }),
			factWith(func(f *api.Fact) { f.To = x }),
			factWith(func(f *api.Fact) { f.Meal = x }))
	}
	return append(l,
		factWith(func(f *api.Fact) { f.At = api.MaxDay*1440 + 1 }),
		factWith(func(f *api.Fact) { f.Child = api.MaxChild + 1 }),
		factWith(func(f *api.Fact) { f.From = 7 }),
		factWith(func(f *api.Fact) { f.From = 8 }),
		factWith(func(f *api.Fact) { f.From, f.To = 0, 0 }),
		factWith(func(f *api.Fact) { f.To = api.MaxDay + 1 }),
		factWith(func(f *api.Fact) { f.From, f.To = api.MaxDay, api.MaxDay }),
		factWith(func(f *api.Fact) { f.Meal = api.MaxMeal + 1 }))
}

// endFacts are facts at the ends of what is allowed.
func endFacts() []api.Fact {
	return []api.Fact{
		factWith(func(f *api.Fact) { f.At = api.MaxDay * 1440 }),
		factWith(func(f *api.Fact) { f.Child = 0 }),
		factWith(func(f *api.Fact) { f.Child = api.MaxChild }),
		factWith(func(f *api.Fact) { f.From = 0 }),
		factWith(func(f *api.Fact) { f.From = 6 }),
		factWith(func(f *api.Fact) { f.To = api.MaxDay }),
		factWith(func(f *api.Fact) { f.From, f.To = api.MaxDay-1, api.MaxDay }),
		factWith(func(f *api.Fact) { f.Meal = 0 }),
		factWith(func(f *api.Fact) { f.Meal = api.MaxMeal }),
	}
}

// P5.1: each field of a fact has its bounds.
func TestValidateFacts(t *testing.T) {
	for _, f := range wrongFacts() {
		if e := Validate([]api.Fact{f}); e != api.ErrArg {
			t.Errorf("Validate of %v: %v", f, e)
		}
	}
	for _, f := range endFacts() {
		if e := Validate([]api.Fact{f}); e != api.OK {
			t.Errorf("Validate of %v: %v", f, e)
		}
	}
	if e := Validate([]api.Fact{factWith(func(f *api.Fact) { f.At = 0 })}); e != api.OK {
		t.Errorf("Validate of a fact at 0: %v", e)
	}
	for _, l := range [][]api.Fact{nil, {}} {
		if e := Validate(l); e != api.OK {
			t.Errorf("Validate of %#v: %v", l, e)
		}
	}
}

// P5.1: facts stand in the order in which they were written; those of one minute may follow in any order.
func TestValidateOrder(t *testing.T) {
	at := func(minutes ...int) []api.Fact {
		var l []api.Fact
		for _, m := range minutes {
			l = append(l, factWith(func(f *api.Fact) { f.At = m }))
		}
		return l
	}
	for _, c := range []struct {
		l    []api.Fact
		want api.Errno
	}{
		{at(0, 0, 1, 1, 5), api.OK},
		{at(1, 0), api.ErrOrder},
		{at(0, 7, 6, 8), api.ErrOrder},
		{at(3, 4, 5, 4), api.ErrOrder},
		{at(0, -1), api.ErrArg},
		{at(5, 4, -1), api.ErrOrder},
		{at(-1, 5, 4), api.ErrArg},
		{append(at(5, 4), wrongFacts()[1]), api.ErrOrder},
		{append(at(20), factWith(func(f *api.Fact) { f.At, f.Meal = 19, 10 })), api.ErrArg},
	} {
		if e := Validate(c.l); e != c.want {
			t.Errorf("Validate of %v: %v, want %v", c.l, e, c.want)
		}
	}
}

// P5.1: a table has at most MaxFacts facts, and that is examined first.
func TestValidateLarge(t *testing.T) {
	full := slices.Repeat([]api.Fact{{To: 1}}, api.MaxFacts)
	if e := Validate(full); e != api.OK {
		t.Errorf("a full table: %v", e)
	}
	if e := Validate(append(full, api.Fact{To: 1})); e != api.ErrLarge {
		t.Errorf("one fact too many: %v", e)
	}
	if e := Validate(make([]api.Fact, api.MaxFacts+1)); e != api.ErrLarge {
		t.Errorf("too many wrong facts: %v", e)
	}
	if e := Validate(make([]api.Fact, api.MaxFacts)); e != api.ErrArg {
		t.Errorf("as many wrong facts as may be: %v", e)
	}
}

// P5.1: Add returns the table with one more fact.
func TestAdd(t *testing.T) {
	var l []api.Fact
	r := rand.New(rand.NewSource(1))
	want := randomTable(r, api.MaxFacts, 5, 20, 9, 9)
	for i, f := range want {
		more, e := Add(l, f)
		if e != api.OK || !slices.Equal(more, want[:i+1]) {
			t.Fatalf("Add of %v: %v, %v", f, more, e)
		}
		l = more
	}
	if more, e := Add(l, l[len(l)-1]); e != api.ErrLarge || len(more) > 0 {
		t.Errorf("Add to a full table: %v, %v", more, e)
	}
	if more, e := Add(example(), factWith(func(f *api.Fact) { f.At = 19 })); e != api.ErrOrder || len(more) > 0 {
		t.Errorf("Add of an earlier fact: %v, %v", more, e)
	}
	if more, e := Add(nil, endFacts()[0]); e != api.OK || len(more) != 1 {
		t.Errorf("Add to no table: %v, %v", more, e)
	}
	for _, f := range wrongFacts() {
		if more, e := Add(example(), f); e != api.ErrArg || len(more) > 0 {
			t.Errorf("Add of %v: %v, %v", f, more, e)
		}
	}
	wrong := make([]api.Fact, api.MaxFacts)
	if _, e := Add(wrong, api.Fact{To: 1}); e != api.ErrArg {
		t.Errorf("Add to a full table with a wrong fact: %v", e)
	}
	if _, e := Add([]api.Fact{{At: 2, To: 1}, {At: 1, To: 1}}, api.Fact{}); e != api.ErrOrder {
		t.Errorf("Add of a wrong fact to a table without order: %v", e)
	}
}

// P5.1: Add writes nothing behind the table that it is given.
func TestAddKeepsApart(t *testing.T) {
	l := append(example(), api.Fact{At: 30, Child: 9, From: 1, To: 2, Meal: 3})
	a, _ := Add(l[:2], api.Fact{At: 20, Child: 2, From: 0, To: 1, Meal: 1})
	b, _ := Add(l[:2], api.Fact{At: 20, Child: 3, From: 0, To: 1, Meal: 1})
	if l[2].Child != 9 || a[2].Child != 2 || b[2].Child != 3 {
		t.Errorf("the third facts are %v, %v and %v", l[2], a[2], b[2])
	}
	a[0].Meal = 8
	if l[0].Meal != 2 || b[0].Meal != 2 {
		t.Errorf("tables share memory: %v, %v", l, b)
	}
}
