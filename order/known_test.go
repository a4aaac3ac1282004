package order

import (
	"math"
	"math/rand"
	"slices"
	"testing"

	"canteen/api"
)

// P5.2: the example of the chapter.
func TestExample(t *testing.T) {
	l := example()
	for _, c := range [][3]int{{9, 0, 0}, {10, 0, 2}, {15, 3, 2}, {19, 3, 2}, {20, 3, 0}, {20, 2, 2}, {20, 4, 2}, {20, 5, 0}, {math.MaxInt, 4, 2}, {math.MaxInt, 3, 0}, {math.MinInt, 0, 0}, {-1, 0, 0}} {
		if m, e := Known(l, c[0], 1, c[1]); m != c[2] || e != api.OK {
			t.Errorf("Known at %d of the day %d: %d, %v", c[0], c[1], m, e)
		}
	}
	for _, c := range []struct {
		at, child, day, number int
		is                     bool
	}{{9, 1, 3, 0, false}, {10, 1, 3, 0, true}, {20, 1, 3, 1, true}, {20, 1, 4, 0, true}, {20, 1, 5, 0, false}, {20, 0, 3, 0, false}} {
		if n, is, e := Reason(l, c.at, c.child, c.day); n != c.number || is != c.is || e != api.OK {
			t.Errorf("Reason %v: %d, %v, %v", c, n, is, e)
		}
	}
	if s, e := Spans(l, 15, 1); e != api.OK || !slices.Equal(s, []api.Span{{From: 0, To: 5, Meal: 2}}) {
		t.Errorf("Spans at 15: %v, %v", s, e)
	}
	if s, e := Spans(l, 20, 1); e != api.OK || !slices.Equal(s, []api.Span{{From: 0, To: 3, Meal: 2}, {From: 4, To: 5, Meal: 2}}) {
		t.Errorf("Spans at 20: %v, %v", s, e)
	}
}

// P5.2: Known and Reason are what the chapter defines, for random tables and all minutes, children and days.
func TestKnownByDefinition(t *testing.T) {
	r := rand.New(rand.NewSource(2))
	some := 0
	for range 300 {
		l := randomTable(r, r.Intn(15), 3, 7, 5, 3)
		for at := -2; at < 6; at++ {
			for child := range 4 {
				for day := range 9 {
					want := reasonByDefinition(l, at, child, day)
					n, is, e := Reason(l, at, child, day)
					if e != api.OK || is != (want >= 0) || is && n != want || !is && n != 0 {
						t.Fatalf("Reason of %v at %d of %d on %d: %d, %v, %v, want %d", l, at, child, day, n, is, e, want)
					}
					m, e := Known(l, at, child, day)
					if e != api.OK || m != knownByDefinition(l, at, child, day) {
						t.Fatalf("Known of %v at %d of %d on %d: %d, %v", l, at, child, day, m, e)
					}
					if is {
						some++
					}
				}
			}
		}
	}
	if some < 10000 {
		t.Errorf("something was known only %d times", some)
	}
}

// P5.2: a fact without a meal is a reason too.
func TestReasonOfNone(t *testing.T) {
	l := []api.Fact{{At: 0, Child: 2, From: 1, To: 3, Meal: 0}}
	if n, is, e := Reason(l, 0, 2, 2); n != 0 || !is || e != api.OK {
		t.Errorf("Reason: %d, %v, %v", n, is, e)
	}
}

// checkSpans reports an error unless spans are exactly the longest ones of the days for which is says so, each with its meal.
func checkSpans(t *testing.T, spans []api.Span, is func(day int) bool, meal func(day int) int) {
	t.Helper()
	at := 0
	for i, s := range spans {
		if s.From < at || s.From >= s.To || s.To > api.MaxDay {
			t.Fatalf("no spans in order: %v", spans)
		}
		for day := at; day < s.From; day++ {
			if is(day) {
				t.Fatalf("the day %d is missing in %v", day, spans)
			}
		}
		for day := s.From; day < s.To; day++ {
			if !is(day) || meal(day) != s.Meal {
				t.Fatalf("the day %d is wrong in %v", day, spans)
			}
		}
		if i > 0 && spans[i-1].To == s.From && spans[i-1].Meal == s.Meal {
			t.Fatalf("spans that are not as long as possible: %v", spans)
		}
		at = s.To
	}
	for day := at; day < api.MaxDay; day++ {
		if is(day) {
			t.Fatalf("the day %d is missing in %v", day, spans)
		}
	}
}

// P5.2: the spans are those days on which there is a meal, brought together.
func TestSpansByDefinition(t *testing.T) {
	r := rand.New(rand.NewSource(3))
	some := 0
	for round := range 100 {
		days := 12
		if round%10 == 0 {
			days = api.MaxDay
		}
		l := randomTable(r, r.Intn(20), 2, days, 5, 2)
		for at := -1; at < 5; at++ {
			for child := range 3 {
				s, e := Spans(l, at, child)
				if e != api.OK {
					t.Fatalf("Spans of %v: %v", l, e)
				}
				meal := func(day int) int { return knownByDefinition(l, at, child, day) }
				checkSpans(t, s, func(day int) bool { return meal(day) != 0 }, meal)
				some += len(s)
			}
		}
	}
	if some < 800 {
		t.Errorf("there were only %d spans", some)
	}
}

// P5.2: facts that touch and have one meal are one span; the last day of a term is a day.
func TestSpansTouch(t *testing.T) {
	l := []api.Fact{{From: 500, To: api.MaxDay, Meal: 3}, {From: 0, To: 200, Meal: 3}, {From: 200, To: 300, Meal: 3}, {From: 300, To: 500, Meal: 4}}
	want := []api.Span{{From: 0, To: 300, Meal: 3}, {From: 300, To: 500, Meal: 4}, {From: 500, To: api.MaxDay, Meal: 3}}
	if s, e := Spans(l, 0, 0); e != api.OK || !slices.Equal(s, want) {
		t.Errorf("Spans: %v, %v", s, e)
	}
	if s, e := Spans(l, -1, 0); e != api.OK || len(s) > 0 {
		t.Errorf("Spans below 0: %v, %v", s, e)
	}
}

// P5.2: children and counts by the definition, the meal 0 included.
func TestChildrenByDefinition(t *testing.T) {
	r := rand.New(rand.NewSource(4))
	for range 40 {
		l := randomTable(r, r.Intn(25), api.MaxChild+1, 6, 5, 2)
		l = append(l, api.Fact{At: 4, Child: api.MaxChild, From: 1, To: 3, Meal: 2}, api.Fact{At: 4, Child: 0, From: 1, To: 3, Meal: 1})
		at := r.Intn(7) - 1
		for meal := range 4 {
			total := 0
			for day := range 8 {
				var want []int
				for child := range api.MaxChild + 1 {
					if knownByDefinition(l, at, child, day) == meal {
						want = append(want, child)
					}
				}
				c, e := Children(l, at, day, meal)
				if e != api.OK || !slices.Equal(c, want) {
					t.Fatalf("Children of %v at %d on %d with %d: %v, %v, want %v", l, at, day, meal, c, e, want)
				}
				total += len(want)
				if n, e := Count(l, at, 0, day+1, meal); e != api.OK || n != total {
					t.Fatalf("Count of %v at %d to %d of %d: %d, %v, want %d", l, at, day+1, meal, n, e, total)
				}
				if n, e := Count(l, at, day, day+1, meal); e != api.OK || n != len(want) {
					t.Fatalf("Count of %v at %d on %d of %d: %d, %v, want %d", l, at, day, meal, n, e, len(want))
				}
				if n, e := Count(l, at, day, day, meal); e != api.OK || n != 0 {
					t.Fatalf("Count of no days: %d, %v", n, e)
				}
			}
		}
	}
}

// P5.2: the counts of all meals over all days are the pairs of children and days.
func TestCountAll(t *testing.T) {
	l := slices.Repeat([]api.Fact{{From: 0, To: api.MaxDay, Meal: 9}}, api.MaxFacts)
	for i := range l {
		l[i].Child, l[i].Meal = i, i%10
	}
	sum := 0
	for meal := range api.MaxMeal + 1 {
		n, e := Count(l, 0, 0, api.MaxDay, meal)
		want := 6 * api.MaxDay
		if meal == 0 {
			want = 46 * api.MaxDay
		}
		if e != api.OK || n != want {
			t.Errorf("Count of %d: %d, %v, want %d", meal, n, e, want)
		}
		sum += n
	}
	if sum != 100*api.MaxDay {
		t.Errorf("the sum of the counts is %d", sum)
	}
	if n, e := Count(l, 0, api.MaxDay, api.MaxDay, 1); e != api.OK || n != 0 {
		t.Errorf("Count behind the last day: %d, %v", n, e)
	}
}

// S4: what was known at a minute stays known of that minute, whatever is written later.
func TestKnownStays(t *testing.T) {
	r := rand.New(rand.NewSource(5))
	for range 200 {
		l := randomTable(r, 20, 2, 6, 9, 3)
		n := 1 + r.Intn(19)
		early := l[:n]
		for at := -1; at < l[n].At; at++ {
			for child := range 2 {
				a, e := Spans(early, at, child)
				b, f := Spans(l, at, child)
				if e != api.OK || f != api.OK || !slices.Equal(a, b) {
					t.Fatalf("Spans of %v at %d: %v, then %v", l, at, a, b)
				}
				for day := range 6 {
					m, _ := Known(early, at, child, day)
					if k, _ := Known(l, at, child, day); k != m {
						t.Fatalf("Known of %v at %d: %d, then %d", l, at, m, k)
					}
				}
			}
		}
	}
}

// S4: an order that is written on Tuesday for Thursday is not known on Monday, and stays known on Tuesday when it is cancelled on Wednesday.
func TestTuesday(t *testing.T) {
	const day = 1440
	l, _ := Add(nil, api.Fact{At: day, Child: 7, From: 3, To: 4, Meal: 1})
	l, e := Add(l, api.Fact{At: 2 * day, Child: 7, From: 3, To: 4, Meal: 0})
	for at, want := range []int{0, 1, 0, 0} {
		if m, f := Known(l, at*day, 7, 3); m != want || e != api.OK || f != api.OK {
			t.Errorf("Known on the day %d: %d, %v, %v", at, m, e, f)
		}
	}
}
