package guess

import (
	"math/rand"
	"slices"
	"testing"

	"canteen/api"
)

// fromBits returns a round with the advice and the outcome that the bits of a number say; the last bit is the outcome.
func fromBits(bits, advisers int) api.Round {
	r := api.Round{Came: bits&1 > 0}
	for adviser := range advisers {
		r.Advice = append(r.Advice, bits>>(adviser+1)&1 > 0)
	}
	return r
}

// allGames goes through all games of so many advisers with so many rounds.
func allGames(advisers, rounds int, do func(g []api.Round)) {
	kinds := 2 << advisers
	all := 1
	for range rounds {
		all *= kinds
	}
	for number := range all {
		var g []api.Round
		for rest := number; len(g) < rounds; rest /= kinds {
			g = append(g, fromBits(rest%kinds, advisers))
		}
		do(g)
	}
}

// randomGame returns a game whose advisers are not equally good: a roll below the skill of an adviser is right.
func randomGame(r *rand.Rand, advisers, rounds int) []api.Round {
	skills := make([]int, advisers)
	for adviser := range skills {
		skills[adviser] = r.Intn(101)
	}
	var g []api.Round
	for range rounds {
		round := api.Round{Came: r.Intn(2) == 0}
		for _, skill := range skills {
			round.Advice = append(round.Advice, (r.Intn(100) < skill) == round.Came)
		}
		g = append(g, round)
	}
	return g
}

// eachGame goes through all games with few advisers and rounds, also none, and then some of any size.
func eachGame(seed int64, do func(g []api.Round)) {
	do(nil)
	for _, size := range [][2]int{{1, 1}, {1, 2}, {1, 5}, {2, 1}, {2, 2}, {2, 4}, {3, 1}, {3, 3}, {4, 2}} {
		allGames(size[0], size[1], do)
	}
	r := rand.New(rand.NewSource(seed))
	for range 3000 {
		do(randomGame(r, r.Intn(api.MaxAdvisers)+1, r.Intn(api.MaxRounds)+1))
	}
}

// wrongByDefinition returns how often each adviser was wrong.
func wrongByDefinition(g []api.Round) []int {
	if len(g) == 0 {
		return nil
	}
	times := make([]int, len(g[0].Advice))
	for _, round := range g {
		for adviser, advice := range round.Advice {
			if advice && !round.Came || !advice && round.Came {
				times[adviser]++
			}
		}
	}
	return times
}

// P6.1: a game has at most MaxRounds rounds, all with as many pieces of advice, from 1 to MaxAdvisers.
func TestValidate(t *testing.T) {
	for rounds := range api.MaxRounds + 3 {
		for pieces := range api.MaxAdvisers + 3 {
			want := api.OK
			switch {
			case rounds > api.MaxRounds:
				want = api.ErrLarge
			case rounds > 0 && (pieces < 1 || pieces > api.MaxAdvisers):
				want = api.ErrArg
			}
			if e := Validate(advised(slices.Repeat([]int{pieces}, rounds)...)); e != want {
				t.Errorf("Validate of %d rounds with %d: %v, want %v", rounds, pieces, e, want)
			}
		}
	}
	for odd := range 5 {
		for pieces := range api.MaxAdvisers + 1 {
			l := slices.Repeat([]int{3}, 5)
			l[odd] = pieces
			if e := Validate(advised(l...)); (e == api.OK) != (pieces == 3) || e != api.OK && e != api.ErrArg {
				t.Errorf("Validate of rounds with %v: %v", l, e)
			}
		}
	}
}

// P6.1: Wrong, and the first of the advisers that were wrong least often.
func TestWrongAndBest(t *testing.T) {
	shared := 0
	eachGame(61, func(g []api.Round) {
		want := wrongByDefinition(g)
		for adviser, times := range want {
			if n, e := Wrong(g, adviser); e != api.OK || n != times {
				t.Fatalf("Wrong of %v for %d: %d, %v, want %d", g, adviser, n, e, times)
			}
		}
		for _, adviser := range []int{-1, len(want), len(want) + 1} {
			if n, e := Wrong(g, adviser); e != api.ErrNone || n != 0 {
				t.Fatalf("Wrong of %v for %d: %d, %v", g, adviser, n, e)
			}
		}
		best, times, e := BestAdviser(g)
		if len(want) == 0 {
			if best != 0 || times != 0 || e != api.ErrNone {
				t.Fatalf("BestAdviser of no rounds: %d, %d, %v", best, times, e)
			}
			return
		}
		least := slices.Min(want)
		if e != api.OK || times != least || best != slices.Index(want, least) {
			t.Fatalf("BestAdviser of %v: %d, %d, %v, all: %v", g, best, times, e, want)
		}
		if slices.Contains(want[best+1:], least) {
			shared++
		}
	})
	if shared < 1000 {
		t.Errorf("only %d games with several best advisers", shared)
	}
}

// P6.1: some games with what the chapter says of them.
func TestGameExamples(t *testing.T) {
	g := []api.Round{fromBits(0b011, 2), fromBits(0b011, 2)}
	if said, e := Said(g); e != api.OK || !slices.Equal(said, []bool{false, true}) {
		t.Errorf("Said in the example: %v, %v", said, e)
	}
	if n, e := Errors(g); e != api.OK || n != 1 {
		t.Errorf("Errors in the example: %d, %v", n, e)
	}
	if w, e := Weights(g); e != api.OK || !slices.Equal(w, []int{1 << 24, 1 << 22}) {
		t.Errorf("Weights in the example: %v, %v", w, e)
	}
	always := slices.Repeat([]api.Round{fromBits(0b011, 2)}, api.MaxRounds)
	if w, e := Weights(always); e != api.OK || !slices.Equal(w, []int{1 << 24, 1}) {
		t.Errorf("Weights of one that is always wrong: %v, %v", w, e)
	}
	if n, e := Wrong(always, 1); e != api.OK || n != api.MaxRounds {
		t.Errorf("Wrong of one that is always wrong: %d, %v", n, e)
	}
	// one adviser with a whole weight, and two with a half: only together are they as heavy
	tie := []api.Round{fromBits(0b0011, 3)}
	for _, c := range []struct {
		advice []bool
		want   bool
	}{{[]bool{true, false, false}, false}, {[]bool{false, true, true}, false}, {[]bool{true, true, false}, true}, {[]bool{true, false, true}, true}, {[]bool{false, true, false}, false}, {[]bool{true, true, true}, true}, {[]bool{false, false, false}, false}} {
		if yes, e := Say(tie, c.advice); e != api.OK || yes != c.want {
			t.Errorf("Say of %v: %v, %v", c.advice, yes, e)
		}
	}
}
