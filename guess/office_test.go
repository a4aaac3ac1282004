package guess

import (
	"math/big"
	"math/rand"
	"slices"
	"testing"

	"canteen/api"
)

// power returns a number to a power.
func power(x, n int) *big.Int {
	return new(big.Int).Exp(big.NewInt(int64(x)), big.NewInt(int64(n)), nil)
}

// weightsByDefinition returns the weights of advisers after a game.
func weightsByDefinition(g []api.Round, advisers int) []*big.Int {
	w := make([]*big.Int, advisers)
	times := append(wrongByDefinition(g), make([]int, advisers)...)
	for adviser := range w {
		w[adviser] = power(2, api.MaxRounds-times[adviser])
	}
	return w
}

// sayByDefinition returns what the office says behind a game.
func sayByDefinition(g []api.Round, advice []bool) bool {
	more, less := new(big.Int), new(big.Int)
	for adviser, w := range weightsByDefinition(g, len(advice)) {
		if advice[adviser] {
			more.Add(more, w)
		} else {
			less.Add(less, w)
		}
	}
	return more.Cmp(less) > 0
}

// saidByDefinition returns what the office said in each round, and how often it erred.
func saidByDefinition(g []api.Round) ([]bool, int) {
	var said []bool
	times := 0
	for n, round := range g {
		said = append(said, sayByDefinition(g[:n], round.Advice))
		if said[n] != round.Came {
			times++
		}
	}
	return said, times
}

// P6.1: the weights after all rounds.
func TestWeights(t *testing.T) {
	eachGame(62, func(g []api.Round) {
		w, e := Weights(g)
		if len(g) == 0 {
			if e != api.ErrNone || len(w) != 0 {
				t.Fatalf("Weights of no rounds: %v, %v", w, e)
			}
			return
		}
		want := weightsByDefinition(g, len(g[0].Advice))
		same := slices.EqualFunc(w, want, func(x int, y *big.Int) bool { return y.Cmp(big.NewInt(int64(x))) == 0 })
		if e != api.OK || !same {
			t.Fatalf("Weights of %v: %v, %v, want %v", g, w, e, want)
		}
	})
}

// P6.1: what the office says in each round and in a next one, with the weights before it, and how often it errs.
func TestOfficeSays(t *testing.T) {
	r := rand.New(rand.NewSource(63))
	said := map[bool]int{}
	eachGame(64, func(g []api.Round) {
		want, times := saidByDefinition(g)
		if l, e := Said(g); e != api.OK || !slices.Equal(l, want) {
			t.Fatalf("Said of %v: %v, %v, want %v", g, l, e, want)
		}
		if n, e := Errors(g); e != api.OK || n != times {
			t.Fatalf("Errors of %v: %d, %v, want %d", g, n, e, times)
		}
		pieces := r.Intn(api.MaxAdvisers) + 1
		if len(g) > 0 {
			pieces = len(g[0].Advice)
		}
		for range 3 {
			advice := fromBits(r.Intn(2<<pieces), pieces).Advice
			wanted := sayByDefinition(g, advice)
			said[wanted]++
			if yes, e := Say(g, advice); e != api.OK || yes != wanted {
				t.Fatalf("Say behind %v of %v: %v, %v, want %v", g, advice, yes, e, wanted)
			}
		}
	})
	if said[true] < 1000 || said[false] < 1000 {
		t.Errorf("the office says %v: too much alike", said)
	}
}

// P6.2: the greatest number for which the powers are as the chapter says.
func TestBound(t *testing.T) {
	for advisers := 1; advisers <= api.MaxAdvisers; advisers++ {
		for times := range api.MaxRounds + 1 {
			want := 0
			for m := range api.MaxRounds + 1 {
				right := new(big.Int).Mul(power(2, times), power(3, m))
				right.Mul(right, big.NewInt(int64(advisers)))
				if power(4, m).Cmp(right) <= 0 {
					want = m
				}
			}
			if n, e := Bound(advisers, times); e != api.OK || n != want {
				t.Errorf("Bound of %d and %d: %d, %v, want %d", advisers, times, n, e, want)
			}
		}
	}
	for _, c := range [][3]int{{1, 0, 0}, {8, 0, 7}, {1, 1, 2}, {8, 24, 24}, {2, 0, 2}} {
		if n, e := Bound(c[0], c[1]); e != api.OK || n != c[2] {
			t.Errorf("Bound of %d and %d: %d, %v, want %d", c[0], c[1], n, e, c[2])
		}
	}
}

// isBounded checks that the office does not err more often in a game than the bound of its best adviser, and returns how often it errs.
func isBounded(t *testing.T, g []api.Round) int {
	t.Helper()
	_, least, e := BestAdviser(g)
	bound, f := Bound(len(g[0].Advice), least)
	n, h := Errors(g)
	if e != api.OK || f != api.OK || h != api.OK || n > bound {
		t.Fatalf("%d errors in %v, bound %d: %v, %v, %v", n, g, bound, e, f, h)
	}
	return n
}

// S5 and P6.2: the office never errs more often than the bound of its best adviser.
func TestOfficeIsBounded(t *testing.T) {
	eachGame(65, func(g []api.Round) {
		if len(g) > 0 {
			isBounded(t, g)
		}
	})
}

// S5 and P6.2: also not if always that comes which the office does not say.
func TestUnluckyOfficeIsBounded(t *testing.T) {
	r := rand.New(rand.NewSource(66))
	for range 2000 {
		advisers := r.Intn(api.MaxAdvisers) + 1
		var g []api.Round
		for n := range api.MaxRounds {
			advice := fromBits(r.Intn(2<<advisers), advisers).Advice
			yes, e := Say(g, advice)
			if e != api.OK {
				t.Fatalf("Say behind %v: %v", g, e)
			}
			g = append(g, api.Round{Advice: advice, Came: !yes})
			if errors := isBounded(t, g); errors != n+1 {
				t.Fatalf("%d errors in %v", errors, g)
			}
		}
	}
}

// halvingByDefinition returns what Halving returns beside the error.
func halvingByDefinition(g []api.Round) (right []int, times int, is bool) {
	for n, round := range g {
		before := append(wrongByDefinition(g[:n]), make([]int, len(round.Advice))...)
		yes, no := 0, 0
		for adviser, advice := range round.Advice {
			if before[adviser] > 0 {
				continue
			}
			if advice {
				yes++
			} else {
				no++
			}
		}
		if (yes > no) != round.Came {
			times++
		}
	}
	for adviser, n := range wrongByDefinition(g) {
		if n == 0 {
			right = append(right, adviser)
		}
	}
	if right == nil {
		return nil, 0, false
	}
	return right, times, true
}

// keepRight makes one adviser of a game always right.
func keepRight(g []api.Round, adviser int) []api.Round {
	for _, round := range g {
		round.Advice[adviser] = round.Came
	}
	return g
}

// P6.3: Halving by its definition, and its consequence: it errs at most as often as the advisers can be halved.
func TestHalving(t *testing.T) {
	r := rand.New(rand.NewSource(67))
	some, none := 0, 0
	check := func(g []api.Round) {
		right, times, is, e := Halving(g)
		if len(g) == 0 {
			if len(right) != 0 || times != 0 || is || e != api.ErrNone {
				t.Fatalf("Halving of no rounds: %v, %d, %v, %v", right, times, is, e)
			}
			return
		}
		wantRight, wantTimes, want := halvingByDefinition(g)
		if e != api.OK || is != want || times != wantTimes || !slices.Equal(right, wantRight) {
			t.Fatalf("Halving of %v: %v, %d, %v, %v, want %v, %d, %v", g, right, times, is, e, wantRight, wantTimes, want)
		}
		if !is {
			none++
			return
		}
		some++
		if 1<<times > len(g[0].Advice) {
			t.Fatalf("Halving of %v errs %d times", g, times)
		}
	}
	eachGame(68, func(g []api.Round) {
		check(g)
		if len(g) > 0 {
			check(keepRight(g, r.Intn(len(g[0].Advice))))
		}
	})
	if some < 1000 || none < 1000 {
		t.Errorf("%d with an adviser, %d without: too much alike", some, none)
	}
}

// P6.3: one who was wrong once is not heard any more, and equally many do not say true.
func TestHalvingExamples(t *testing.T) {
	for _, c := range []struct {
		game  []api.Round
		right []int
		times int
		is    bool
	}{
		{[]api.Round{fromBits(0b011, 2), fromBits(0b011, 2)}, []int{0}, 1, true}, // equal, and true came
		{[]api.Round{fromBits(0b010, 2), fromBits(0b100, 2)}, nil, 0, false},     // each was wrong once
		{[]api.Round{fromBits(0b0001, 2)}, nil, 0, false},
		{[]api.Round{fromBits(0b11, 1)}, []int{0}, 0, true},
		{[]api.Round{fromBits(0b00, 1)}, []int{0}, 0, true},
		{[]api.Round{fromBits(0b1110, 3), fromBits(0b0000, 3)}, nil, 0, false},
		{[]api.Round{fromBits(0b0011, 3), fromBits(0b0011, 3)}, []int{0}, 1, true}, // two err in the first round, and are outvoted in the second
		{[]api.Round{fromBits(0b111111111, 8)}, []int{0, 1, 2, 3, 4, 5, 6, 7}, 0, true},
	} {
		right, times, is, e := Halving(c.game)
		if e != api.OK || is != c.is || times != c.times || !slices.Equal(right, c.right) {
			t.Errorf("Halving of %v: %v, %d, %v, %v, want %v, %d, %v", c.game, right, times, is, e, c.right, c.times, c.is)
		}
	}
}
