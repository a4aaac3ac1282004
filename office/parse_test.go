package office

import (
	"strings"
	"testing"

	"canteen/api"
)

// longOrder returns an order of so many bytes that are all right but for how many they are: an even number of them has a child of two digits.
func longOrder(bytes int) string {
	first := "child 4"
	if bytes%2 == 0 {
		first = "child 40"
	}
	return first + strings.Repeat(" 0", (bytes-len(first))/2)
}

// P9.1: what is not an order is refused with ErrSyntax.
func TestWrongSyntax(t *testing.T) {
	o := open(t, "child 8", "dish soup 0")
	refuse(t, o, api.ErrSyntax,
		"", " ", "\n", "x", "9", "8 0 1", "soup 0", "orders 8 0 1", "orde 8 0 1", "Order 8 0 1", "ORDER 8 0 1", "order,8,0,1", "\x00", "\xff\xfe",
		"at", "at ", "at x", "at 1 2", "at  1", " at 1", "at 1 ", "at\t1", "at 1\n", "at 1\r", "at\n1", "\nat 1", "at1", "at 1 x",
		"dish", "dish pie", "dish 1", "dish pie x", "dish pie 1 2", "dish pie pea 1", "dish  1", "dish pie  1", "dish Pie 1", "dish pIe 1", "dish pi-e 1", "dish pi_e 1", "dish pi\xc3\xa9 1", "dish {pie 1", "dish `pie 1", "dish /pie 1", "dish :pie 1", "dish pie 1 ",
		"child", "child ", "child x", "child 1 x", "child 1 ", "child 1  2", "child 1 2 ", "child 1 2 -3", "children 1",
		"order 8", "order 8 0", "order 8 0 1 2", "order 8 0 x", "order x 0 1", "order 8 -1 1", "order 8  0 1",
		"cancel 8 0", "cancel 8 0 1 2", "cancel", "cancel 8 0 1 ",
		"free 8 0", "free 8 0 1 2", "free", "free 8 0 1.0",
		"cook 0", "cook 0 1 2", "cook", "cook 0 x",
		"eat 0", "eat 0 1 2", "eat", "eat x 0",
	)
	if o.Book() != "child 8\ndish soup 0\n" {
		t.Errorf("Book: %q", o.Book())
	}
}

// P9.1: numbers are from 0 to 2000000, written as in R9.
func TestNumbers(t *testing.T) {
	o := open(t)
	for _, number := range []string{"-1", "-0", "+0", "+1", "00", "01", "1_0", "0x1", "1e3", "1.", "٣", "2000001", "2000002", "9223372036854775807", "9223372036854775808", "18446744073709551617", "99999999999999999999999", "-9223372036854775808", "/", ":"} {
		refuse(t, o, api.ErrSyntax, "at "+number, "dish pie "+number, "child "+number, "child 1 "+number, "child 1 0 "+number,
			"order "+number+" 0 1", "order 1 "+number+" 1", "order 1 0 "+number, "cancel "+number+" 0 1", "cancel 1 "+number+" 1", "cancel 1 0 "+number,
			"free "+number+" 0 1", "free 1 "+number+" 1", "free 1 0 "+number, "cook "+number+" 1", "cook 0 "+number, "eat "+number+" 1", "eat 0 "+number)
	}
	refuse(t, o, api.ErrLarge, "at 2000000", "at 1999999", "cook 0 2000000")
	refuse(t, o, api.ErrNone, "dish pie 2000000", "order 2000000 0 1", "cancel 2000000 0 1", "free 2000000 0 1")
	refuse(t, o, api.ErrArg, "child 2000000", "child 1 2000000")
	refuse(t, o, api.ErrClosed, "cook 2000000 0", "eat 2000000 0")
	accept(t, o, "child 1")
	refuse(t, o, api.ErrArg, "order 1 0 2000000", "order 1 2000000 2000000", "cancel 1 0 2000000", "free 1 0 2000000")
	accept(t, o, "cook 0 5")
	refuse(t, o, api.ErrShort, "eat 0 2000000")
	accept(t, o, "at 0", "at 10", "at 1440000")
}

// P9.1: names of an order may be wrong names, but are words of letters and digits.
func TestNames(t *testing.T) {
	o := open(t)
	refuse(t, o, api.ErrName, "dish 1 0", "dish 1a 0", "dish 0 0", "dish 9z 0", "dish abcdefghi 0", "dish a12345678 0", "dish "+strings.Repeat("a", 53)+" 0")
	refuse(t, o, api.ErrSyntax, "dish "+strings.Repeat("a", 54)+" 0")
	accept(t, o, "dish abcdefgh 0", "dish z 0", "dish a0z9 0")
	if l := o.Dishes(); len(l) != 3 || l[0].Name != "abcdefgh" || l[1].Name != "z" || l[2].Name != "a0z9" {
		t.Errorf("Dishes: %v", l)
	}
}

// P9.1: an order has at most MaxLine bytes.
func TestLongOrders(t *testing.T) {
	o := open(t)
	for bytes := 11; bytes <= 70; bytes++ { // with two properties or more, which are no set
		want := api.ErrArg
		if bytes > api.MaxLine {
			want = api.ErrSyntax
		}
		line := longOrder(bytes)
		if len(line) != bytes {
			t.Fatalf("%q has %d bytes", line, len(line))
		}
		refuse(t, o, want, line)
	}
	refuse(t, o, api.ErrSyntax, strings.Repeat("x", api.MaxLine), strings.Repeat("at 1 ", 1000), "at 1"+strings.Repeat("\n", 56), strings.Repeat("0", 61))
}

// P9.1: a book has at most MaxBook orders; this comes behind ErrSyntax and before the errors of the orders.
func TestFullBook(t *testing.T) {
	o := open(t, "child 8", "dish soup 0")
	for range api.MaxBook - 3 {
		if e := o.Do("at 5"); e != api.OK {
			t.Fatal(e)
		}
	}
	refuse(t, o, api.ErrOrder, "at 4")
	refuse(t, o, api.ErrName, "dish soup 0")
	accept(t, o, "at 6")
	refuse(t, o, api.ErrLarge, "at 6", "at 7", "at 5", "dish pie 0", "dish soup 9", "dish 1 1", "child 9", "child 8", "child 100", "order 8 0 1", "order 9 0 1", "order 8 1 1", "cancel 8 0 1", "cancel 9 0 1", "free 8 0 1", "free 9 0 1", "cook 0 1", "cook 2 1", "eat 0 1", "eat 99 1")
	refuse(t, o, api.ErrSyntax, "", "at", "at 06", "dish Pie 0", "child", "order 8 0", "cook 0", longOrder(61))
	if strings.Count(o.Book(), "\n") != api.MaxBook || !o.Audit() {
		t.Errorf("a full book: %q", o.Book())
	}
}

// P9.1: each order that is accepted is written into the book as it is, and no other one.
func TestBookOfAllKinds(t *testing.T) {
	lines := []string{"dish soup 1", "child 8", "child 9 1 3", "at 30", "order 8 0 5", "order 9 3 4", "at 30", "cancel 8 1 2", "free 8 0 1", "cook 0 3", "eat 0 2"}
	o := open(t)
	book := ""
	for _, line := range lines {
		refuse(t, o, api.ErrSyntax, line+" ", line+" x")
		accept(t, o, line)
		book += line + "\n"
		if o.Book() != book {
			t.Errorf("Book: %q, want %q", o.Book(), book)
		}
	}
}
