package order

import (
	"math/rand"
	"slices"
	"testing"

	"canteen/api"
)

// somePrices are prices of which no two are equal and which do not ascend.
func somePrices() []int {
	return []int{300, 250, 0, 410, api.MaxPrice, 120, 90, 505, 1}
}

// payByDefinition returns what is paid for a child and a day.
func payByDefinition(l []api.Fact, r []api.Right, prices []int, cut, child, day int) int {
	if freeByDefinition(r, child, day) {
		return 0
	}
	price := func(meal int) int { return append([]int{0}, prices...)[meal] }
	m := knownByDefinition(l, day*1440-cut, child, day)
	e := knownByDefinition(l, api.MaxDay*1440, child, day)
	return max(price(m), price(e))
}

// P5.6: the example of the chapter: a meal that is cancelled too late is paid.
func TestPayExample(t *testing.T) {
	for _, c := range [][3]int{{100, 3, 0}, {100, 2, 250}, {4300, 3, 0}, {4301, 3, 250}, {4310, 3, 250}, {4311, 3, 0}, {10000, 3, 0}, {10000, 4, 250}, {0, 0, 250}, {0, 5, 0}} {
		if n, e := Pay(example(), nil, somePrices(), c[0], 1, c[1]); e != api.OK || n != c[2] {
			t.Errorf("Pay with cut %d on %d: %d, %v, want %d", c[0], c[1], n, e, c[2])
		}
	}
	late := []api.Fact{{At: 10, Child: 1, From: 7, To: 8, Meal: 1}, {At: 7*1440 - 59, Child: 1, From: 7, To: 8, Meal: 4}}
	for _, c := range []struct{ second, want int }{{4, 410}, {2, 300}, {3, 300}, {0, 300}, {5, api.MaxPrice}} {
		late[1].Meal = c.second
		if n, e := Pay(late, nil, somePrices(), 60, 1, 7); e != api.OK || n != c.want {
			t.Errorf("Pay of the meal %d that is chosen late: %d, %v, want %d", c.second, n, e, c.want)
		}
	}
	if n, e := Pay(late, nil, somePrices(), 60, 2, 7); e != api.OK || n != 0 {
		t.Errorf("Pay for another child: %d, %v", n, e)
	}
	if n, e := Pay(late, []api.Right{{Child: 1, From: 7, To: 8}}, somePrices(), 60, 1, 7); e != api.OK || n != 0 {
		t.Errorf("Pay for a child that is free: %d, %v", n, e)
	}
}

// P5.6: Pay and Bill by their definitions, and bills of following stretches add up.
func TestBillByDefinition(t *testing.T) {
	r := rand.New(rand.NewSource(13))
	late := 0
	for range 200 {
		l := randomTable(r, r.Intn(20), 2, 6, 6*1440, 9)
		rights := randomRights(r, r.Intn(3), 2, 6)
		prices := make([]int, api.MaxMeal)
		for i := range prices {
			prices[i] = r.Intn(api.MaxPrice + 1)
		}
		cut := r.Intn(3 * 1440)
		for child := range 3 {
			sum := 0
			for day := range 8 {
				want := payByDefinition(l, rights, prices, cut, child, day)
				n, e := Pay(l, rights, prices, cut, child, day)
				if e != api.OK || n != want {
					t.Fatalf("Pay of %v with cut %d for %d on %d: %d, %v, want %d", l, cut, child, day, n, e, want)
				}
				if n > payByDefinition(l, rights, prices, -api.MaxDay*1440, child, day) {
					late++
				}
				if b, e := Bill(l, rights, prices, cut, child, 0, day); e != api.OK || b != sum {
					t.Fatalf("Bill to %d: %d, %v, want %d", day, b, e, sum)
				}
				sum += n
				if b, e := Bill(l, rights, prices, cut, child, day, day+1); e != api.OK || b != n {
					t.Fatalf("Bill of the day %d: %d, %v, want %d", day, b, e, n)
				}
			}
		}
	}
	if late < 50 {
		t.Errorf("only %d meals were changed too late", late)
	}
}

// P5.6: the greatest bill; each day of a term is paid once.
func TestBillOfTerm(t *testing.T) {
	l := []api.Fact{{Child: api.MaxChild, From: 0, To: api.MaxDay, Meal: api.MaxMeal}}
	prices := slices.Repeat([]int{api.MaxPrice}, api.MaxMeal)
	if n, e := Bill(l, nil, prices, 10000, api.MaxChild, 0, api.MaxDay); e != api.OK || n != api.MaxDay*api.MaxPrice {
		t.Errorf("the bill of a term: %d, %v", n, e)
	}
	if n, e := Pay(l, nil, prices, 0, api.MaxChild, api.MaxDay-1); e != api.OK || n != api.MaxPrice {
		t.Errorf("the last day: %d, %v", n, e)
	}
	for _, day := range []int{0, 500, api.MaxDay} {
		if n, e := Bill(l, nil, prices, 0, api.MaxChild, day, day); e != api.OK || n != 0 {
			t.Errorf("the bill of no days: %d, %v", n, e)
		}
	}
}

// P5.6: what is written at the last minute is known in the end.
func TestPayInTheEnd(t *testing.T) {
	l := []api.Fact{{At: api.MaxDay * 1440, From: 0, To: api.MaxDay, Meal: 2}}
	for _, day := range []int{0, 400, api.MaxDay - 1} {
		if n, e := Pay(l, nil, somePrices(), 0, 0, day); e != api.OK || n != 250 {
			t.Errorf("Pay on %d: %d, %v", day, n, e)
		}
	}
}
