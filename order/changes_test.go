package order

import (
	"math"
	"math/rand"
	"slices"
	"testing"

	"canteen/api"
)

// P5.3: the example of the chapter, forward and back.
func TestChangedExample(t *testing.T) {
	l := example()
	for _, c := range []struct {
		before, after int
		want          []api.Span
	}{
		{15, 20, []api.Span{{From: 3, To: 4, Meal: 0}}},
		{20, 15, []api.Span{{From: 3, To: 4, Meal: 2}}},
		{-1, 10, []api.Span{{From: 0, To: 5, Meal: 2}}},
		{math.MaxInt, math.MinInt, []api.Span{{From: 0, To: 3}, {From: 4, To: 5}}},
		{-1, 20, []api.Span{{From: 0, To: 3, Meal: 2}, {From: 4, To: 5, Meal: 2}}},
		{10, 19, nil},
		{20, 20, nil},
	} {
		if s, e := Changed(l, c.before, c.after, 1); e != api.OK || !slices.Equal(s, c.want) {
			t.Errorf("Changed from %d to %d: %v, %v, want %v", c.before, c.after, s, e, c.want)
		}
	}
	if s, e := Changed(l, 0, 30, 2); e != api.OK || len(s) > 0 {
		t.Errorf("Changed of another child: %v, %v", s, e)
	}
}

// P5.3: days that had different meals before and have one now are one span.
func TestChangedTouch(t *testing.T) {
	l := []api.Fact{{At: 0, From: 0, To: 2, Meal: 1}, {At: 0, From: 2, To: 4, Meal: 2}, {At: 0, From: 4, To: 5, Meal: 3}, {At: 9, From: 0, To: 6, Meal: 3}, {At: 9, From: 6, To: 7, Meal: 4}}
	want := []api.Span{{From: 0, To: 4, Meal: 3}, {From: 5, To: 6, Meal: 3}, {From: 6, To: 7, Meal: 4}}
	if s, e := Changed(l, 8, 9, 0); e != api.OK || !slices.Equal(s, want) {
		t.Errorf("Changed: %v, %v", s, e)
	}
}

// P5.3: the spans are those days on which something else is known.
func TestChangedByDefinition(t *testing.T) {
	r := rand.New(rand.NewSource(6))
	some := 0
	for round := range 100 {
		days := 12
		if round%10 == 0 {
			days = api.MaxDay
		}
		l := randomTable(r, r.Intn(20), 2, days, 4, 2)
		for before := -1; before < 4; before++ {
			for after := -1; after < 4; after++ {
				child := r.Intn(3)
				s, e := Changed(l, before, after, child)
				if e != api.OK {
					t.Fatalf("Changed of %v: %v", l, e)
				}
				now := func(day int) int { return knownByDefinition(l, after, child, day) }
				checkSpans(t, s, func(day int) bool { return now(day) != knownByDefinition(l, before, child, day) }, now)
				some += len(s)
			}
		}
	}
	if some < 1000 {
		t.Errorf("there were only %d spans", some)
	}
}

// P5.3: the history is the facts of a child on a day.
func TestHistory(t *testing.T) {
	r := rand.New(rand.NewSource(7))
	some := 0
	for range 100 {
		l := randomTable(r, r.Intn(20), 3, 6, 4, 2)
		for child := range 4 {
			for day := range 8 {
				var want []api.Fact
				for _, f := range l {
					if f.Child == child && f.From <= day && day < f.To {
						want = append(want, f)
					}
				}
				h, e := History(l, child, day)
				if e != api.OK || !slices.Equal(h, want) {
					t.Fatalf("History of %v: %v, %v, want %v", l, h, e, want)
				}
				some += len(h)
			}
		}
	}
	if some < 1500 {
		t.Errorf("there were only %d facts", some)
	}
}

// P5.3: Until returns the facts that are written, and the same is known by them.
func TestUntil(t *testing.T) {
	r := rand.New(rand.NewSource(8))
	for range 100 {
		l := randomTable(r, r.Intn(12), 2, 5, 4, 2)
		for _, at := range []int{math.MinInt, -1, 0, 1, 2, 3, 4, math.MaxInt} {
			var want []api.Fact
			for _, f := range l {
				if f.At <= at {
					want = append(want, f)
				}
			}
			u, e := Until(l, at)
			if e != api.OK || !slices.Equal(u, want) {
				t.Fatalf("Until %d of %v: %v, %v", at, l, u, e)
			}
			for child := range 2 {
				a, _ := Spans(u, at, child)
				b, _ := Spans(u, math.MaxInt, child)
				if c, _ := Spans(l, at, child); !slices.Equal(a, c) || !slices.Equal(b, c) {
					t.Fatalf("known until %d of %v: %v and %v, want %v", at, l, a, b, c)
				}
			}
		}
	}
}

// P5.4: Compact returns a fact at 0 for each span of each child.
func TestCompact(t *testing.T) {
	r := rand.New(rand.NewSource(9))
	for range 40 {
		l := randomTable(r, r.Intn(15), api.MaxChild+1, 9, 4, 2)
		l = append(l, api.Fact{At: 3, Child: api.MaxChild, From: 2, To: 4, Meal: 1}, api.Fact{At: 3, Child: 0, From: 2, To: 4, Meal: 1})
		at := r.Intn(6) - 1
		var want []api.Fact
		for child := range api.MaxChild + 1 {
			spans, _ := Spans(l, at, child)
			for _, s := range spans {
				want = append(want, api.Fact{At: 0, Child: child, From: s.From, To: s.To, Meal: s.Meal})
			}
		}
		c, e := Compact(l, at)
		if e != api.OK || !slices.Equal(c, want) || Validate(c) != api.OK {
			t.Fatalf("Compact of %v at %d: %v, %v, want %v", l, at, c, e, want)
		}
		for child := range api.MaxChild + 1 {
			for day := range 10 {
				if m, _ := Known(c, 0, child, day); m != knownByDefinition(l, at, child, day) {
					t.Fatalf("by Compact of %v at %d there is %d of %d on %d", l, at, m, child, day)
				}
			}
		}
	}
}

// P5.4: there can be more spans than facts: a meal that is cancelled on n days in its middle makes n + 1 spans.
func TestCompactLarge(t *testing.T) {
	l := []api.Fact{{Child: 3, From: 0, To: api.MaxDay, Meal: 1}}
	for i := range api.MaxFacts - 1 {
		l = append(l, api.Fact{At: 1 + i, Child: 3, From: 2*i + 1, To: 2*i + 2, Meal: 0})
	}
	if c, e := Compact(l, 59); e != api.OK || len(c) != api.MaxFacts {
		t.Errorf("Compact: %d facts, %v", len(c), e)
	}
	l[59].Meal = 2
	if c, e := Compact(l, 59); e != api.ErrLarge || len(c) > 0 {
		t.Errorf("Compact of too many spans: %v, %v", c, e)
	}
	if c, e := Compact(l, 58); e != api.OK || len(c) != 59 {
		t.Errorf("Compact before: %d facts, %v", len(c), e)
	}
	l[58].Child, l[58].Meal = 4, 5
	if c, e := Compact(l, 60); e != api.ErrLarge || len(c) > 0 {
		t.Errorf("Compact of too many spans of two children: %v, %v", c, e)
	}
	l[59].Meal = 0
	if c, e := Compact(l, 60); e != api.OK || len(c) != api.MaxFacts {
		t.Errorf("Compact of two children: %d facts, %v", len(c), e)
	}
}

// needlessByDefinition tries all minutes, children and days.
func needlessByDefinition(l []api.Fact, children, days, minutes int) []int {
	used := make([]bool, len(l))
	for at := range minutes {
		for child := range children {
			for day := range days {
				if i := reasonByDefinition(l, at, child, day); i >= 0 {
					used[i] = true
				}
			}
		}
	}
	var needless []int
	for i, is := range used {
		if !is {
			needless = append(needless, i)
		}
	}
	return needless
}

// P5.4: the needless facts are those that never are the reason; without them the same is known at all minutes.
func TestNeedless(t *testing.T) {
	r := rand.New(rand.NewSource(10))
	some := 0
	for range 400 {
		l := randomTable(r, r.Intn(12), 2, 5, 3, 2)
		want := needlessByDefinition(l, 2, 5, 3)
		n, e := Needless(l)
		if e != api.OK || !slices.Equal(n, want) {
			t.Fatalf("Needless of %v: %v, %v, want %v", l, n, e, want)
		}
		some += len(n)
		var rest []api.Fact
		for i, f := range l {
			if !slices.Contains(n, i) {
				rest = append(rest, f)
			}
		}
		for at := range 4 {
			for child := range 2 {
				a, _ := Spans(l, at, child)
				if b, _ := Spans(rest, at, child); !slices.Equal(a, b) {
					t.Fatalf("without needless facts %v becomes %v", a, b)
				}
			}
		}
	}
	if some < 300 {
		t.Errorf("only %d facts were needless", some)
	}
}

// P5.4: only facts of the same minute and child make one needless, and they may do so together.
func TestNeedlessTogether(t *testing.T) {
	fact := func(at, child, from, to int) api.Fact {
		return api.Fact{At: at, Child: child, From: from, To: to, Meal: 1}
	}
	for _, c := range []struct {
		l    []api.Fact
		want []int
	}{
		{[]api.Fact{fact(1, 1, 0, 4), fact(1, 1, 0, 2), fact(1, 1, 2, 4)}, []int{0}},
		{[]api.Fact{fact(1, 1, 0, 4), fact(1, 1, 0, 2), fact(1, 1, 3, 4)}, nil},
		{[]api.Fact{fact(1, 1, 0, 4), fact(2, 1, 0, 4)}, nil},
		{[]api.Fact{fact(1, 1, 0, 4), fact(1, 2, 0, 4)}, nil},
		{[]api.Fact{fact(1, 1, 0, 4), fact(1, 1, 0, 4), fact(1, 1, 0, 4)}, []int{0, 1}},
		{[]api.Fact{fact(1, 1, 999, 1000), fact(1, 1, 0, 999)}, nil},
		{[]api.Fact{fact(1, 1, 0, 1000), fact(1, 1, 1, 1000)}, nil},
		{nil, nil},
	} {
		if n, e := Needless(c.l); e != api.OK || !slices.Equal(n, c.want) {
			t.Errorf("Needless of %v: %v, %v, want %v", c.l, n, e, c.want)
		}
	}
}
