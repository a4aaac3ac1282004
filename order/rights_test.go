package order

import (
	"math"
	"math/rand"
	"slices"
	"testing"

	"canteen/api"
)

// rightWith returns a right with one field changed.
func rightWith(change func(r *api.Right)) api.Right {
	r := api.Right{Child: 3, From: 4, To: 7}
	change(&r)
	return r
}

// wrongRights are rights that no list can have.
func wrongRights() []api.Right {
	var l []api.Right
	for _, x := range []int{-1, math.MinInt, math.MaxInt} {
		l = append(l,
			rightWith(func(r *api.Right) { r.Child = x }),
			rightWith(func(r *api.Right) { r.From = x }),
			rightWith(func(r *api.Right) { r.To = x }))
	}
	return append(l,
		rightWith(func(r *api.Right) { r.Child = api.MaxChild + 1 }),
		rightWith(func(r *api.Right) { r.From = 7 }),
		rightWith(func(r *api.Right) { r.From = 8 }),
		rightWith(func(r *api.Right) { r.From, r.To = 0, 0 }),
		rightWith(func(r *api.Right) { r.To = api.MaxDay + 1 }))
}

// P5.5: a right has its bounds; there are at most MaxFacts, and that is examined first.
func TestValidateRights(t *testing.T) {
	for _, r := range wrongRights() {
		if e := ValidateRights([]api.Right{{To: 1}, r}); e != api.ErrArg {
			t.Errorf("ValidateRights of %v: %v", r, e)
		}
	}
	for _, r := range []api.Right{{To: 1}, {Child: api.MaxChild, From: api.MaxDay - 1, To: api.MaxDay}, {From: 0, To: api.MaxDay}} {
		if e := ValidateRights([]api.Right{r}); e != api.OK {
			t.Errorf("ValidateRights of %v: %v", r, e)
		}
	}
	for _, l := range [][]api.Right{nil, {}} {
		if e := ValidateRights(l); e != api.OK {
			t.Errorf("ValidateRights of %#v: %v", l, e)
		}
	}
	full := slices.Repeat([]api.Right{{To: 1}}, api.MaxFacts)
	if e := ValidateRights(full); e != api.OK {
		t.Errorf("a full list: %v", e)
	}
	if e := ValidateRights(append(full, api.Right{To: 1})); e != api.ErrLarge {
		t.Errorf("one right too many: %v", e)
	}
	if e := ValidateRights(make([]api.Right, api.MaxFacts+1)); e != api.ErrLarge {
		t.Errorf("too many wrong rights: %v", e)
	}
	if e := ValidateRights(make([]api.Right, api.MaxFacts)); e != api.ErrArg {
		t.Errorf("as many wrong rights as may be: %v", e)
	}
}

// randomRights returns rights of few children and days.
func randomRights(r *rand.Rand, rights, children, days int) []api.Right {
	l := make([]api.Right, rights)
	for i := range l {
		from := r.Intn(days)
		l[i] = api.Right{Child: r.Intn(children), From: from, To: from + 1 + r.Intn(min(4, days-from))}
	}
	return l
}

// freeByDefinition reports whether a child has a right on a day.
func freeByDefinition(l []api.Right, child, day int) bool {
	return slices.ContainsFunc(l, func(r api.Right) bool { return r.Child == child && r.From <= day && day < r.To })
}

// P5.5: Free by its definition.
func TestFree(t *testing.T) {
	r := rand.New(rand.NewSource(11))
	some := 0
	for range 200 {
		l := randomRights(r, r.Intn(6), 3, 9)
		for child := range 4 {
			for day := range 11 {
				want := freeByDefinition(l, child, day)
				if is, e := Free(l, child, day); e != api.OK || is != want {
					t.Fatalf("Free of %v for %d on %d: %v, %v", l, child, day, is, e)
				}
				if want {
					some++
				}
			}
		}
	}
	if some < 500 {
		t.Errorf("a child was free only %d times", some)
	}
	if is, e := Free([]api.Right{{Child: api.MaxChild, From: 999, To: 1000}}, api.MaxChild, 999); !is || e != api.OK {
		t.Errorf("Free on the last day: %v, %v", is, e)
	}
}

// rightsBySorting brings rights together one after another.
func rightsBySorting(l []api.Right, child int) []api.Right {
	var own, one []api.Right
	for _, r := range l {
		if r.Child == child {
			own = append(own, r)
		}
	}
	slices.SortFunc(own, func(a, b api.Right) int { return a.From - b.From })
	for _, r := range own {
		if n := len(one); n > 0 && r.From <= one[n-1].To {
			one[n-1].To = max(one[n-1].To, r.To)
		} else {
			one = append(one, r)
		}
	}
	return one
}

// P5.5: rights that overlap or touch are one.
func TestRights(t *testing.T) {
	r := rand.New(rand.NewSource(12))
	some := 0
	for round := range 200 {
		days := 30
		if round%10 == 0 {
			days = api.MaxDay
		}
		l := randomRights(r, r.Intn(16), 3, days)
		for child := range 4 {
			want := rightsBySorting(l, child)
			one, e := Rights(l, child)
			if e != api.OK || !slices.Equal(one, want) {
				t.Fatalf("Rights of %v for %d: %v, %v, want %v", l, child, one, e, want)
			}
			some += len(one)
		}
	}
	if some < 800 {
		t.Errorf("there were only %d rights", some)
	}
	l := []api.Right{{Child: 1, From: 500, To: 1000}, {Child: 1, From: 0, To: 499}, {Child: 2, From: 499, To: 500}}
	if one, e := Rights(l, 1); e != api.OK || !slices.Equal(one, []api.Right{l[1], l[0]}) {
		t.Errorf("Rights that do not touch: %v, %v", one, e)
	}
}
