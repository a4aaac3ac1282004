package dish

import (
	"math"
	"math/rand"
	"slices"
	"testing"

	"canteen/api"
)

// by is a step of a property that an item has by itself, and from one by a rule.
func by(prop, item int) api.Step { return api.Step{Prop: prop, From: item, Rule: -1} }

func from(prop, rule int) api.Step { return api.Step{Prop: prop, From: -1, Rule: rule} }

// P2.3

func TestCheckProof(t *testing.T) {
	long := slices.Repeat([]api.Step{by(0, 0)}, 39)
	for i, c := range []struct {
		item, prop int
		proof      []api.Step
		want       api.Errno
	}{
		{4, 2, []api.Step{by(0, 0), by(1, 1), from(2, 1)}, api.OK},
		{4, 2, []api.Step{by(1, 1), by(4, 4), by(0, 0), by(1, 1), from(2, 1), from(2, 1)}, api.OK},
		{5, 5, []api.Step{by(0, 0), by(1, 1), from(2, 1), by(3, 3), from(5, 0)}, api.OK},
		{5, 4, []api.Step{by(4, 4)}, api.OK},
		{4, 4, []api.Step{by(4, 4)}, api.OK},
		{0, 0, append(long, by(0, 0)), api.OK},
		{4, 2, append(long[:37:37], by(0, 0), by(1, 1), from(2, 1)), api.OK},

		{7, 0, nil, api.ErrNone},
		{-1, 0, []api.Step{by(0, 0)}, api.ErrNone},
		{0, 6, []api.Step{by(6, 0)}, api.ErrNone},
		{0, -1, []api.Step{by(-1, 0)}, api.ErrNone},
		{math.MinInt, math.MaxInt, nil, api.ErrNone},
		{7, 0, make([]api.Step, 41), api.ErrNone},
		{0, 6, make([]api.Step, 41), api.ErrNone},

		{0, 0, append(long, by(0, 0), by(0, 0)), api.ErrLarge},
		{0, 0, make([]api.Step, 41), api.ErrLarge},

		{0, 0, nil, api.ErrProof},
		{0, 0, []api.Step{}, api.ErrProof},
		{0, 1, []api.Step{by(0, 0)}, api.ErrProof},                                          // the last one has another property
		{4, 0, []api.Step{by(0, 0), by(1, 1)}, api.ErrProof},                                // the last one has another property
		{0, 1, []api.Step{by(1, 1)}, api.ErrProof},                                          // the item does not contain this one
		{2, 4, []api.Step{by(4, 4)}, api.ErrProof},                                          // the item is only a part of it
		{5, 0, []api.Step{by(0, 2)}, api.ErrProof},                                          // not by itself
		{4, 4, []api.Step{by(3, 4)}, api.ErrProof},                                          // another property
		{4, 2, []api.Step{by(0, 0), from(2, 1)}, api.ErrProof},                              // one property of If is missing
		{4, 2, []api.Step{by(0, 0), from(2, 1), by(1, 1)}, api.ErrProof},                    // it comes later
		{4, 2, []api.Step{by(0, 0), from(2, 1), by(1, 1), from(2, 1)}, api.ErrProof},        // the second one does not mend the first
		{4, 5, []api.Step{by(0, 0), by(1, 1), from(5, 1)}, api.ErrProof},                    // another Then
		{4, 2, []api.Step{by(0, 0), by(1, 1), {Prop: 2, From: 4, Rule: 1}}, api.ErrProof},   // a rule and an item
		{4, 2, []api.Step{by(0, 0), by(1, 1), {Prop: 2, From: -2, Rule: 1}}, api.ErrProof},  // From is not -1
		{4, 2, []api.Step{by(0, 0), by(1, 1), {Prop: 2, From: -1, Rule: -1}}, api.ErrProof}, // neither
		{4, 2, []api.Step{by(0, 0), by(1, 1), from(2, 2)}, api.ErrProof},
		{4, 2, []api.Step{by(0, 0), by(1, 1), from(2, -2)}, api.ErrProof},
		{4, 2, []api.Step{by(0, 0), by(1, 1), from(2, math.MaxInt)}, api.ErrProof},
		{4, 2, []api.Step{by(0, 0), by(1, 1), from(2, math.MinInt)}, api.ErrProof},
		{0, 0, []api.Step{by(0, 7)}, api.ErrProof},
		{0, 0, []api.Step{by(0, -2)}, api.ErrProof},
		{0, 0, []api.Step{by(0, math.MaxInt)}, api.ErrProof},
		{0, 0, []api.Step{by(0, math.MinInt)}, api.ErrProof},
		{0, 0, []api.Step{by(math.MinInt, 0), by(0, 0)}, api.ErrProof},
		{0, 0, []api.Step{from(math.MaxInt, 0), by(0, 0)}, api.ErrProof},
		{0, 0, []api.Step{by(9, 9), by(0, 0)}, api.ErrProof}, // a wrong step before a right one
	} {
		if e := CheckProof(bread(), c.item, c.prop, c.proof); e != c.want {
			t.Errorf("%d: %v, want %v", i, e, c.want)
		}
	}
}

// A rule without If needs nothing, and one whose Then is in its If gives nothing new.
func TestCheckProofOddRules(t *testing.T) {
	b := api.Book{Props: 3, Items: []api.Item{{}}, Rules: []api.Rule{{Then: 1}, {If: []int{2}, Then: 2}, {If: []int{0, 1}, Then: 0}}}
	for i, c := range []struct {
		prop  int
		proof []api.Step
		want  api.Errno
	}{
		{1, []api.Step{from(1, 0)}, api.OK},
		{2, []api.Step{from(2, 1)}, api.ErrProof},
		{0, []api.Step{from(1, 0), from(0, 2)}, api.ErrProof},
	} {
		if e := CheckProof(b, 0, c.prop, c.proof); e != c.want {
			t.Errorf("%d: %v, want %v", i, e, c.want)
		}
	}
	for prop, want := range []bool{false, true, false} {
		if p, is, e := Explain(b, 0, prop); is != want || e != api.OK || (p != nil) != want {
			t.Error(prop, p, is, e)
		}
		if n, is, e := Shortest(b, 0, prop); is != want || e != api.OK || n != prop%2 {
			t.Error(prop, n, is, e)
		}
	}
}

func TestExplain(t *testing.T) {
	// The example of the chapter: its proof is the only one of three steps, but for the order of the first two.
	b := api.Book{Props: 3, Items: []api.Item{{Has: []int{0}}, {Has: []int{1}}, {Parts: []int{0, 1}}}, Rules: []api.Rule{{If: []int{0, 1}, Then: 2}}}
	p, is, e := Explain(b, 2, 2)
	if !is || e != api.OK || CheckProof(b, 2, 2, p) != api.OK {
		t.Error(p, is, e)
	}
	if p, is, e := Explain(b, 1, 2); p != nil || is || e != api.OK {
		t.Error(p, is, e)
	}
	for _, c := range [][2]int{{3, 0}, {-1, 0}, {0, 3}, {0, -1}, {math.MaxInt, 0}, {0, math.MinInt}} {
		if p, is, e := Explain(b, c[0], c[1]); p != nil || is || e != api.ErrNone {
			t.Error(c, p, is, e)
		}
		if n, is, e := Shortest(b, c[0], c[1]); n != 0 || is || e != api.ErrNone {
			t.Error(c, n, is, e)
		}
	}
}

// S1: a property is in the label of a dish exactly if there is a proof.
func TestLabelsAreProved(t *testing.T) {
	r := rand.New(rand.NewSource(31))
	proofs, none := 0, 0
	for range 300 {
		b := someBook(r, 10, 20, 16)
		before := copyOf(b)
		for item := range b.Items {
			label, _ := Label(b, item)
			for prop := range b.Props {
				p, is, e := Explain(b, item, prop)
				if is != slices.Contains(label, prop) || e != api.OK {
					t.Fatal(b, item, prop, p, is, e)
				}
				if !is {
					none++
					if p != nil {
						t.Fatal(b, item, prop, p)
					}
					continue
				}
				proofs++
				if e := CheckProof(b, item, prop, p); e != api.OK {
					t.Fatal(b, item, prop, p, e)
				}
				if again, _, _ := Explain(b, item, prop); !slices.Equal(p, again) {
					t.Fatal(b, item, prop, p, again)
				}
			}
		}
		if !sameBook(b, before) {
			t.Fatal(b, before)
		}
	}
	if proofs < 1000 || none < 1000 {
		t.Error("the books are too much alike", proofs, none)
	}
}

// A proof is wrong if a step that a later one needs is taken out.
func TestProofsNeedTheirSteps(t *testing.T) {
	b := bread()
	p := []api.Step{by(0, 0), by(1, 1), from(2, 1), by(3, 3), from(5, 0)}
	for i := range p {
		if e := CheckProof(b, 5, 5, slices.Delete(slices.Clone(p), i, i+1)); e != api.ErrProof {
			t.Error(i, e)
		}
	}
}

func TestShortest(t *testing.T) {
	// 5 follows from 4, which follows from 0 by 1, 2 and 3, but also from 0 and 6 at once.
	b := api.Book{Props: 7, Items: []api.Item{{Has: []int{0}}, {Has: []int{6}}, {Parts: []int{0, 1}}}, Rules: []api.Rule{
		{If: []int{0}, Then: 1}, {If: []int{1}, Then: 2}, {If: []int{1, 2}, Then: 3}, {If: []int{3}, Then: 4}, {If: []int{0, 6}, Then: 4}, {If: []int{4}, Then: 5},
	}}
	for _, c := range []struct{ item, prop, want int }{
		{0, 0, 1}, {0, 1, 2}, {0, 2, 3}, {0, 3, 4}, {0, 4, 5}, {0, 5, 6}, {0, 6, 0}, {1, 6, 1}, {1, 5, 0},
		{2, 4, 3}, {2, 5, 4}, {2, 3, 4}, {2, 6, 1},
	} {
		if n, is, e := Shortest(b, c.item, c.prop); n != c.want || is != (c.want > 0) || e != api.OK {
			t.Error(c, n, is, e)
		}
	}
	// A property that the item has by itself needs no rule; the longest proof has all properties.
	b = api.Book{Props: 10, Items: []api.Item{{Has: []int{0}}, {Parts: []int{0}, Has: []int{9}}}}
	for i := range 9 {
		b.Rules = append(b.Rules, api.Rule{If: upTo(i + 1), Then: i + 1})
	}
	if n, is, e := Shortest(b, 0, 9); n != 10 || !is || e != api.OK {
		t.Error(n, is, e)
	}
	if n, is, e := Shortest(b, 1, 9); n != 1 || !is || e != api.OK {
		t.Error(n, is, e)
	}
}

// fewestProps tries all proofs of up to most steps behind the given ones, each with a further property, and returns the fewest steps; most + 1 if there is none.
func fewestProps(b api.Book, item, prop int, steps []api.Step, most int) int {
	if len(steps) > 0 && steps[len(steps)-1].Prop == prop {
		return len(steps)
	}
	best := most + 1
	if len(steps) == most {
		return best
	}
	for p := range b.Props {
		if slices.ContainsFunc(steps, func(s api.Step) bool { return s.Prop == p }) {
			continue
		}
		for n := range len(b.Items) + len(b.Rules) {
			s := by(p, n)
			if n >= len(b.Items) {
				s = from(p, n-len(b.Items))
			}
			longer := append(slices.Clone(steps), s)
			if CheckProof(b, item, p, longer) == api.OK {
				best = min(best, fewestProps(b, item, prop, longer, most))
				break
			}
		}
	}
	return best
}

// The shortest proof is as short as the shortest of all that CheckProof accepts.
func TestManyShortest(t *testing.T) {
	r := rand.New(rand.NewSource(32))
	seen := map[int]int{}
	for range 300 {
		b := someBook(r, 5, 5, 8)
		for item := range b.Items {
			for prop := range b.Props {
				want := fewestProps(b, item, prop, nil, b.Props)
				n, is, e := Shortest(b, item, prop)
				if e != api.OK || is != (want <= b.Props) || is && n != want || !is && n != 0 {
					t.Fatal(b, item, prop, n, is, e, want)
				}
				seen[n]++
			}
		}
	}
	if seen[0] < 50 || seen[1] < 50 || seen[2] < 50 || seen[3] < 20 {
		t.Error("the books are too much alike", seen)
	}
}
