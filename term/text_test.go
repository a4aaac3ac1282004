package term

import (
	"math/rand"
	"strings"
	"testing"

	"canteen/api"
)

// P1.7

func TestFormatParse(t *testing.T) {
	for _, c := range []struct {
		term api.Term
		text string
	}{
		{example(), "term 14 rest 5 6 closed 2"},
		{api.Term{Length: 3}, "term 3 rest closed"},
		{api.Term{Length: 3, Rest: []int{0}}, "term 3 rest 0 closed"},
		{api.Term{Length: 1000, Closed: []int{0, 10, 999}}, "term 1000 rest closed 0 10 999"},
		{api.Term{Length: 1, Rest: []int{1, 2, 3, 4, 5, 6}, Closed: []int{0}}, "term 1 rest 1 2 3 4 5 6 closed 0"},
	} {
		if s, e := Format(c.term); s != c.text || e != api.OK {
			t.Errorf("%q: %q %v", c.text, s, e)
		}
		if x, e := Parse(c.text); !sameTerm(x, c.term) || e != api.OK {
			t.Errorf("%q: %v %v", c.text, x, e)
		}
	}
	for _, x := range []api.Term{{}, {Length: 9, Rest: []int{7}}, {Length: 9, Closed: []int{9}}} {
		if s, e := Format(x); s != "" || e != api.ErrArg {
			t.Errorf("%v: %q %v", x, s, e)
		}
	}
	if s, e := Format(api.Term{Length: 99, Closed: upTo(61)}); s != "" || e != api.ErrLarge {
		t.Errorf("%q %v", s, e)
	}
}

func TestParseErrors(t *testing.T) {
	for _, s := range []string{
		"", " ", "term", "term 3", "term 3 rest", "term 3 closed", "term rest closed", "rest closed", "closed", "closed term 3 rest",
		"term 3 closed rest", "term 3 rest closed ", " term 3 rest closed", "term  3 rest closed", "term 3 rest  closed", "term 3 rest closed\n",
		"term 3 4 rest closed", "term 3 rest closed closed", "term 3 rest rest closed", "term 3 rest closed 1 rest", "Term 3 rest closed",
		"term 03 rest closed", "term +3 rest closed", "term -3 rest closed", "term 0 rest closed", "term 1001 rest closed", "term x rest closed",
		"term 3 rest 05 closed", "term 3 rest 7 closed", "term 3 rest 6 5 closed", "term 3 rest 5 5 closed", "term 3 rest -0 closed",
		"term 3 rest 0 1 2 3 4 5 6 closed", "term 3 rest closed 3", "term 3 rest closed 2 1", "term 3 rest closed 01", "term 3 rest closed x",
		"term 3 rest closed 1\t2", "term 3 rest x closed", "term 99999999999999999999 rest closed", "term 18446744073709551619 rest closed",
		"term 1_0 rest closed", "term 0x3 rest closed", "term 3 rest closed 1 \xff", "term 3 rest closed 1 ", strings.Repeat(" ", 4000), strings.Repeat("9", 4000),
	} {
		if x, e := Parse(s); e != api.ErrSyntax || !sameTerm(x, api.Term{}) {
			t.Errorf("%q: %v %v", s, x, e)
		}
	}
	for _, s := range []string{strings.Repeat(" ", 4001), "term 3 rest closed" + strings.Repeat(" ", 4000)} {
		if x, e := Parse(s); e != api.ErrLarge || !sameTerm(x, api.Term{}) {
			t.Errorf("%d bytes: %v %v", len(s), x, e)
		}
	}
	// The closed days of this text are a set, but too many.
	many := format(api.Term{Length: 99, Closed: upTo(61)})
	if x, e := Parse(many); e != api.ErrSyntax || !sameTerm(x, api.Term{}) {
		t.Errorf("%q: %v %v", many, x, e)
	}
}

// Parse reads what Format writes; a text with one byte changed is read only if Format writes it.
func TestParseChanged(t *testing.T) {
	r := rand.New(rand.NewSource(1))
	for range 200 {
		x := someTerm(r)
		s, e := Format(x)
		if e != api.OK {
			t.Fatal(x, e)
		}
		if y, e := Parse(s); !sameTerm(x, y) || e != api.OK {
			t.Fatalf("%q: %v %v", s, y, e)
		}
		for at := range s {
			for _, b := range []string{"", " ", "0", "1", "9", "-", "+", "\n"} {
				changed := s[:at] + b + s[at+1:]
				y, e := Parse(changed)
				if e == api.OK {
					if again, e := Format(y); again != changed || e != api.OK {
						t.Fatalf("%q is read as %v", changed, y)
					}
				} else if e != api.ErrSyntax {
					t.Fatalf("%q: %v", changed, e)
				}
			}
		}
	}
}
