package term

import "canteen/api"

// maxMultiple is the largest least common multiple for which remainders are solved.
const maxMultiple = 1 << 40

// Solve returns the smallest number that has all remainders, and the least common multiple of the moduli.
func Solve(l []api.Line) (least, modulus int, found bool, e api.Errno) {
	if e = checkLines(l); e != api.OK {
		return 0, 0, false, e
	}
	all := api.Line{Rest: 0, Modulus: 1}
	for _, line := range l {
		// Rest may be any number; reduced, no difference of two of them wraps around.
		line.Rest = modulo(line.Rest, line.Modulus)
		joined, ok := join(all, line)
		if !ok {
			return 0, 0, false, api.OK
		}
		all = joined
	}
	return all.Rest, all.Modulus, true, api.OK
}

// checkLines returns the first error of lines that are to be solved, or OK.
func checkLines(l []api.Line) api.Errno {
	if len(l) > api.MaxLines {
		return api.ErrLarge
	}
	for _, line := range l {
		if line.Modulus < 1 || line.Modulus > api.MaxModulus {
			return api.ErrArg
		}
	}
	// The multiple is held against its limit at each line: that of all lines could wrap around.
	multiple := 1
	for _, line := range l {
		divisor, _ := gcd(multiple, line.Modulus)
		multiple *= line.Modulus / divisor
		if multiple > maxMultiple {
			return api.ErrLarge
		}
	}
	return api.OK
}

// join returns the line that says what two lines with reduced rests say together, and false if no number has both remainders.
func join(a, b api.Line) (api.Line, bool) {
	divisor, factor := gcd(a.Modulus, b.Modulus)
	apart := b.Rest - a.Rest
	if apart%divisor != 0 {
		return api.Line{}, false
	}
	part := b.Modulus / divisor
	steps := modulo(apart/divisor, part) * modulo(factor, part) % part
	return api.Line{Rest: a.Rest + steps*a.Modulus, Modulus: a.Modulus * part}, true
}

// gcd returns the greatest common divisor of two numbers above 0, and a factor such that a times factor is the divisor modulo b.
func gcd(a, b int) (divisor, factor int) {
	factor, next := 1, 0
again:
	if b == 0 {
		return a, factor
	}
	factor, next = next, factor-a/b*next
	a, b = b, a%b
	goto again
}
