package guess

import (
	"math/big"
	"math/bits"
	"math/rand"
	"slices"
	"testing"

	"canteen/api"
)

// P6.5: of few trials all sequences are counted.
func TestTailBySequences(t *testing.T) {
	for trials := range 13 {
		for wins := range trials + 1 {
			want := 0
			for sequence := range 1 << trials {
				if bits.OnesCount(uint(sequence)) >= wins {
					want++
				}
			}
			if n, e := Tail(trials, wins); e != api.OK || n != want {
				t.Errorf("Tail of %d and %d: %d, %v, want %d", trials, wins, n, e, want)
			}
		}
	}
}

// tailByDefinition returns the sum of binomial coefficients.
func tailByDefinition(trials, wins int) *big.Int {
	sum := new(big.Int)
	for k := wins; k <= trials; k++ {
		sum.Add(sum, new(big.Int).Binomial(int64(trials), int64(k)))
	}
	return sum
}

// P6.5: the sums of binomial coefficients.
func TestTailByCoefficients(t *testing.T) {
	for trials := range api.MaxTrials + 1 {
		for wins := range trials + 1 {
			want := tailByDefinition(trials, wins)
			if n, e := Tail(trials, wins); e != api.OK || want.Cmp(big.NewInt(int64(n))) != 0 {
				t.Errorf("Tail of %d and %d: %d, %v, want %v", trials, wins, n, e, want)
			}
		}
		for _, wins := range []int{-1, trials + 1} {
			if n, e := Tail(trials, wins); e != api.ErrArg || n != 0 {
				t.Errorf("Tail of %d and %d: %d, %v", trials, wins, n, e)
			}
		}
	}
}

// chance returns the part of the sequences by which a dish is worse.
func chance(wins, losses int) *big.Rat {
	return new(big.Rat).SetFrac(tailByDefinition(wins+losses, losses), power(2, wins+losses))
}

// P6.5: Worse with all results of comparisons, and levels of which many are close to the part.
func TestWorse(t *testing.T) {
	r := rand.New(rand.NewSource(73))
	count := map[int]int{}
	for wins := range api.MaxTrials + 1 {
		for losses := range api.MaxTrials + 1 - wins {
			part := chance(wins, losses)
			for range 20 {
				den := r.Intn(1000) + 1
				near, _ := new(big.Rat).Mul(part, big.NewRat(int64(den), 1)).Float64()
				num := min(max(int(near)+r.Intn(3)-1, 0), den)
				level := big.NewRat(int64(num), int64(den))
				want := part.Cmp(level)
				count[want]++
				if is, e := Worse(wins, losses, api.Rat{Num: int(level.Num().Int64()), Den: int(level.Denom().Int64())}); e != api.OK || is != (want <= 0) {
					t.Fatalf("Worse of %d and %d at %v: %v, %v", wins, losses, level, is, e)
				}
			}
		}
	}
	if count[-1] < 1000 || count[1] < 1000 {
		t.Errorf("%v: too much alike", count)
	}
}

// P6.5: a part that is exactly the level is at most the level.
func TestWorseAtLevel(t *testing.T) {
	edges := 0
	for wins := range api.MaxTrials + 1 {
		for losses := range api.MaxTrials + 1 - wins {
			part := chance(wins, losses)
			if part.Denom().Int64() > 1000 {
				continue
			}
			edges++
			level := api.Rat{Num: int(part.Num().Int64()), Den: int(part.Denom().Int64())}
			if is, e := Worse(wins, losses, level); e != api.OK || !is {
				t.Errorf("Worse of %d and %d at %v: %v, %v", wins, losses, level, is, e)
			}
		}
	}
	if edges < 50 {
		t.Errorf("only %d parts can be levels", edges)
	}
	for _, c := range []struct {
		wins, losses int
		level        api.Rat
		want         bool
	}{{0, 0, api.Rat{Num: 1, Den: 1}, true}, {0, 0, api.Rat{Num: 999, Den: 1000}, false}, {0, 1, api.Rat{Num: 1, Den: 2}, true}, {0, 1, api.Rat{Num: 499, Den: 999}, false}, {1, 0, api.Rat{Num: 999, Den: 1000}, false}, {0, 40, api.Rat{Num: 1, Den: 1000}, true}, {0, 40, api.Rat{Den: 1}, false}, {1, 9, api.Rat{Num: 1, Den: 93}, true}, {1, 9, api.Rat{Num: 1, Den: 94}, false}} {
		if is, e := Worse(c.wins, c.losses, c.level); e != api.OK || is != c.want {
			t.Errorf("Worse of %d and %d at %v: %v, %v", c.wins, c.losses, c.level, is, e)
		}
	}
}

// smoothByDefinition goes through the chapter's formula with fractions.
func smoothByDefinition(l []int, num, den int) *big.Rat {
	part := big.NewRat(int64(num), int64(den))
	rest := new(big.Rat).Sub(big.NewRat(1, 1), part)
	s := big.NewRat(int64(l[0]), 1)
	for _, x := range l[1:] {
		s.Mul(s, rest)
		s.Add(s, new(big.Rat).Mul(part, big.NewRat(int64(x), 1)))
	}
	return s
}

// P6.5: Smooth by its definition, with all parts, also those that are not in lowest terms; it lies between the smallest and the greatest number.
func TestSmooth(t *testing.T) {
	r := rand.New(rand.NewSource(74))
	for length := 1; length <= 8; length++ {
		for den := 1; den <= 10; den++ {
			for num := range den + 1 {
				for _, most := range []int{1, 9, api.MaxOrders} {
					l := make([]int, length)
					for i := range l {
						l[i] = r.Intn(most + 1)
					}
					l[r.Intn(length)] = most
					want := smoothByDefinition(l, num, den)
					s, e := Smooth(l, num, den)
					if e != api.OK || want.Num().Int64() != int64(s.Num) || want.Denom().Int64() != int64(s.Den) {
						t.Fatalf("Smooth of %v by %d/%d: %v, %v, want %v", l, num, den, s, e, want)
					}
					if s.Num < slices.Min(l)*s.Den || s.Num > slices.Max(l)*s.Den {
						t.Fatalf("Smooth of %v by %d/%d: %v", l, num, den, s)
					}
				}
			}
		}
	}
}

// P6.5: the ends of smoothing.
func TestSmoothExamples(t *testing.T) {
	for _, c := range []struct {
		l        []int
		num, den int
		want     api.Rat
	}{
		{[]int{0}, 0, 1, api.Rat{Num: 0, Den: 1}},
		{[]int{0, 0, 0}, 3, 7, api.Rat{Num: 0, Den: 1}},
		{[]int{7}, 3, 7, api.Rat{Num: 7, Den: 1}},
		{[]int{7, 9, 1}, 0, 10, api.Rat{Num: 7, Den: 1}},
		{[]int{7, 9, 1}, 10, 10, api.Rat{Num: 1, Den: 1}},
		{[]int{7, 9, 0}, 1, 1, api.Rat{Num: 0, Den: 1}},
		{[]int{10, 20, 40}, 1, 2, api.Rat{Num: 55, Den: 2}},
		{[]int{10, 20, 40}, 2, 4, api.Rat{Num: 55, Den: 2}},
		{slices.Repeat([]int{api.MaxOrders}, 8), 3, 10, api.Rat{Num: api.MaxOrders, Den: 1}},
	} {
		if s, e := Smooth(c.l, c.num, c.den); e != api.OK || s != c.want {
			t.Errorf("Smooth of %v by %d/%d: %v, %v, want %v", c.l, c.num, c.den, s, e, c.want)
		}
	}
}
