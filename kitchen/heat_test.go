package kitchen

import (
	"math/big"
	"math/rand"
	"testing"

	"canteen/api"
)

// food is food that stands in air.
type food struct {
	heat, air, num, den int
}

// forFood goes through much food: near the air with small fractions, and at random.
func forFood(do func(f food)) {
	for den := 1; den <= 4; den++ {
		for num := range den + 1 {
			for heat := -9; heat <= 9; heat++ {
				for _, air := range []int{-4, -1, 0, 3} {
					do(food{heat, air, num, den})
				}
			}
		}
	}
	r := rand.New(rand.NewSource(86))
	for range 1500 {
		den := 1 + r.Intn(100)
		most := []int{20, api.MaxHeat}[r.Intn(2)]
		do(food{r.Intn(2*most+1) - most, r.Intn(2*most+1) - most, r.Intn(den + 1), den})
	}
	for _, heat := range []int{-api.MaxHeat, 0, api.MaxHeat} {
		for _, air := range []int{-api.MaxHeat, 0, api.MaxHeat} {
			for _, part := range [][2]int{{0, 1}, {0, 100}, {1, 1}, {1, 100}, {99, 100}, {100, 100}} {
				do(food{heat, air, part[0], part[1]})
			}
		}
	}
}

// step returns the temperatures that a step of cooling and one of warming give: the whole numbers around the chapter's fraction.
func (f food) step() (down, up int) {
	exact := big.NewRat(int64(f.heat-f.air)*int64(f.num), int64(f.den))
	exact.Add(exact, big.NewRat(int64(f.air), 1))
	// Div rounds down for a positive divisor
	low := new(big.Int).Div(exact.Num(), exact.Denom())
	down, up = int(low.Int64()), int(low.Int64())
	if !exact.IsInt() {
		up++
	}
	return down, up
}

// cooled returns the temperatures after 0 to so many steps of cooling.
func (f food) cooled(steps int) []int {
	l := []int{f.heat}
	for n := range steps {
		// a temperature that stayed once stays
		if n == 0 || l[n] != l[n-1] {
			f.heat, _ = f.step()
		}
		l = append(l, f.heat)
	}
	return l
}

// warmed returns the temperatures after 0 to so many steps of warming.
func (f food) warmed(steps int) []int {
	l := []int{f.heat}
	for range steps {
		_, f.heat = f.step()
		l = append(l, f.heat)
	}
	return l
}

// cool is Cool, which must not refuse.
func (f food) cool(t *testing.T, steps int) int {
	t.Helper()
	heat, e := Cool(f.heat, f.air, f.num, f.den, steps)
	if e != api.OK {
		t.Fatalf("Cool of %v with %d steps: %v", f, steps, e)
	}
	return heat
}

// warm is Warm, which must not refuse.
func (f food) warm(t *testing.T, steps int) int {
	t.Helper()
	heat, e := Warm(f.heat, f.air, f.num, f.den, steps)
	if e != api.OK {
		t.Fatalf("Warm of %v with %d steps: %v", f, steps, e)
	}
	return heat
}

// P7.6: Cool and Warm by their definition with fractions; Cool is never above Warm.
func TestCoolAndWarm(t *testing.T) {
	apart := 0
	forFood(func(f food) {
		down, up := f.cooled(40), f.warmed(40)
		for steps := range 41 {
			cold, warm := f.cool(t, steps), f.warm(t, steps)
			if cold != down[steps] || warm != up[steps] {
				t.Fatalf("%v after %d steps: %d and %d, want %d and %d", f, steps, cold, warm, down[steps], up[steps])
			}
			if cold > warm {
				t.Fatalf("%v after %d steps: %d is above %d", f, steps, cold, warm)
			}
			if cold < warm {
				apart++
			}
		}
	})
	if apart < 1000 {
		t.Errorf("only %d are apart", apart)
	}
}

// P7.6: a higher temperature is never lower after as many steps.
func TestHigherStaysHigher(t *testing.T) {
	forFood(func(f food) {
		higher := f
		higher.heat = min(f.heat+1, api.MaxHeat)
		for _, steps := range []int{0, 1, 2, 10} {
			if f.cool(t, steps) > higher.cool(t, steps) || f.warm(t, steps) > higher.warm(t, steps) {
				t.Fatalf("%v and %v after %d steps", f, higher, steps)
			}
		}
	})
}

// P7.6: temperatures that are known, below and above 0 and the air.
func TestHeatExamples(t *testing.T) {
	for _, c := range []struct {
		food
		steps, cold, hot int
	}{
		{food{800, 200, 9, 10}, 1, 740, 740},
		{food{805, 200, 9, 10}, 1, 744, 745},
		{food{805, 200, 9, 10}, 0, 805, 805},
		{food{800, 200, 9, 10}, 3, 637, 638},
		{food{-5, 0, 1, 2}, 1, -3, -2},
		{food{-5, 0, 1, 2}, 1000, -1, 0},
		{food{5, 0, 1, 2}, 1000, 0, 1},
		{food{-9, 0, 9, 10}, 1000, -9, 0},
		{food{9, 0, 9, 10}, 1000, 0, 9},
		{food{-5, -200, 1, 2}, 1, -103, -102},
		{food{-200, -5, 1, 2}, 1, -103, -102},
		{food{60, 200, 0, 1}, 1, 200, 200},
		{food{60, 200, 0, 1}, 0, 60, 60},
		{food{60, 200, 7, 7}, 1000, 60, 60},
		{food{50, 50, 3, 7}, 1000, 50, 50},
		{food{api.MaxHeat, -api.MaxHeat, 1, 1}, 1000, api.MaxHeat, api.MaxHeat},
		{food{api.MaxHeat, -api.MaxHeat, 99, 100}, 1, 1960, 1960},
		{food{-api.MaxHeat, api.MaxHeat, 99, 100}, 1000, 2000 - 99, 2000},
	} {
		if cold, warm := c.cool(t, c.steps), c.warm(t, c.steps); cold != c.cold || warm != c.hot {
			t.Errorf("%v after %d steps: %d and %d, want %d and %d", c.food, c.steps, cold, warm, c.cold, c.hot)
		}
	}
}

// limits are the temperatures near those of a list, and the ends, of which all are temperatures.
func limits(heats []int) []int {
	l := []int{-api.MaxHeat, api.MaxHeat}
	for _, heat := range heats {
		for _, limit := range []int{heat - 1, heat, heat + 1} {
			if limit >= -api.MaxHeat && limit <= api.MaxHeat {
				l = append(l, limit)
			}
		}
	}
	return l
}

// P7.7: Steps is the first number of steps up to 1000 after which the temperature is below the limit.
func TestSteps(t *testing.T) {
	below, never := 0, 0
	forFood(func(f food) {
		heats := f.cooled(1000)
		for _, limit := range limits([]int{heats[0], heats[1], heats[2], heats[7], heats[1000]}) {
			want, is := 0, false
			for steps, heat := range heats {
				if heat < limit {
					want, is = steps, true
					break
				}
			}
			if is && want > 0 {
				below++
			} else if !is {
				never++
			}
			if steps, found, e := Steps(f.heat, f.air, f.num, f.den, limit); e != api.OK || steps != want || found != is {
				t.Fatalf("Steps of %v below %d: %d, %v, %v, want %d, %v", f, limit, steps, found, e, want, is)
			}
		}
	})
	if below < 1000 || never < 1000 {
		t.Errorf("%d are below later, %d never: too much alike", below, never)
	}
}

// P7.7: Holds is that no temperature after 0 to so many steps is below the limit.
func TestHolds(t *testing.T) {
	count := map[bool]int{}
	forFood(func(f food) {
		heats := f.cooled(1000)
		for _, steps := range []int{0, 1, 2, 7, 1000} {
			for _, limit := range limits([]int{heats[0], heats[max(steps-1, 0)], heats[steps]}) {
				want := true
				for _, heat := range heats[:steps+1] {
					want = want && heat >= limit
				}
				count[want]++
				if is, e := Holds(f.heat, f.air, f.num, f.den, steps, limit); e != api.OK || is != want {
					t.Fatalf("Holds of %v with %d steps and %d: %v, %v, want %v", f, steps, limit, is, e, want)
				}
			}
		}
	})
	if count[true] < 1000 || count[false] < 1000 {
		t.Errorf("%v: too much alike", count)
	}
}

// P7.7: Steps at the limit itself, below the air, and of food that is colder than the air.
func TestStepsExamples(t *testing.T) {
	for _, c := range []struct {
		food
		limit, steps int
		is           bool
	}{
		{food{800, 200, 9, 10}, 801, 0, true},
		{food{800, 200, 9, 10}, 800, 1, true},
		{food{800, 200, 9, 10}, 741, 1, true},
		{food{800, 200, 9, 10}, 740, 2, true},
		{food{800, 200, 9, 10}, 200, 0, false},
		{food{800, 200, 1, 1}, 800, 0, false},
		{food{100, 200, 9, 10}, 101, 0, true},
		{food{100, 200, 9, 10}, 100, 0, false},
		{food{-2000, -2000, 1, 2}, -2000, 0, false},
		{food{-2000, -2000, 1, 2}, -1999, 0, true},
		{food{2000, -2000, 0, 1}, -1999, 1, true},
		{food{2000, -2000, 0, 1}, -2000, 0, false},
	} {
		steps, is, e := Steps(c.heat, c.air, c.num, c.den, c.limit)
		if steps != c.steps || is != c.is || e != api.OK {
			t.Errorf("Steps of %v below %d: %d, %v, %v, want %d, %v", c.food, c.limit, steps, is, e, c.steps, c.is)
		}
	}
}

// P7.7: food that gets warmer again does not hold a limit that it is below at first.
func TestHoldsExamples(t *testing.T) {
	for _, c := range []struct {
		food
		steps, limit int
		want         bool
	}{
		{food{800, 200, 9, 10}, 0, 800, true},
		{food{800, 200, 9, 10}, 0, 801, false},
		{food{800, 200, 9, 10}, 1, 740, true},
		{food{800, 200, 9, 10}, 1, 741, false},
		{food{800, 200, 9, 10}, 1000, 200, true},
		{food{800, 200, 9, 10}, 1000, 201, false},
		{food{60, 200, 0, 1}, 1, 61, false},
		{food{60, 200, 0, 1}, 1, 60, true},
		{food{-2000, 2000, 1, 2}, 1000, -2000, true},
	} {
		if is, e := Holds(c.heat, c.air, c.num, c.den, c.steps, c.limit); e != api.OK || is != c.want {
			t.Errorf("Holds of %v with %d steps and %d: %v, %v, want %v", c.food, c.steps, c.limit, is, e, c.want)
		}
	}
}
