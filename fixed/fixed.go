// Package fixed is layer 1: numbers with four decimal places, whose every operation is told, or refused.
package fixed

import (
	"math/bits"
	"strconv"
	"strings"

	"lattice/api"
)

// Num is a number, times 10000: the number of its parts.
type Num int64

const (
	maxWhole  = api.MaxNum / api.Scale
	maxDigits = 18
	minPlaces = -15
	maxPlaces = 15
	// numPlaces is how many places a number has: 10 to the power of it is Scale.
	numPlaces = 4
)

// good asks of all numbers that come in to a call at once, since ErrNum goes ahead of whatever else is wrong.
func good(list ...Num) bool {
	for _, a := range list {
		if a < -api.MaxNum || a > api.MaxNum {
			return false
		}
	}
	return true
}

// size takes only a good number: the least int64 has no opposite.
func size(a Num) uint64 {
	if a < 0 {
		return uint64(-a)
	}
	return uint64(a)
}

// signed is the number of so many parts, below 0 or not.
func signed(below bool, parts uint64) (Num, api.Errno) {
	if parts > api.MaxNum {
		return 0, api.ErrNum
	}
	if below {
		return -Num(parts), api.OK
	}
	return Num(parts), api.OK
}

// power is 10 to the power of n, which is at most 19: the next one would not fit.
func power(n int) uint64 {
	p := uint64(1)
	for range n {
		p *= 10
	}
	return p
}

// nearest is x times y divided by z, rounded up from the half on: sizes have no sign, so this is away from 0.
// It is false where even the quotient that isn't rounded is above MaxNum; z isn't 0.
func nearest(x, y, z uint64) (uint64, bool) {
	high, low := bits.Mul64(x, y)
	if high >= z {
		return 0, false // bits.Div64 would panic, for the quotient needs more than 64 bits
	}
	q, rest := bits.Div64(high, low, z)
	if q > api.MaxNum {
		return 0, false
	}
	if rest >= z-rest { // twice the rest might not fit
		q++
	}
	return q, true
}

// scaled is x times y divided by z, rounded, as the parts of a number with the sign that is told.
func scaled(below bool, x, y, z uint64) (Num, api.Errno) {
	parts, ok := nearest(x, y, z)
	if !ok {
		return 0, api.ErrNum
	}
	return signed(below, parts)
}

// Of: a whole number.
func Of(n int64) (Num, api.Errno) {
	if n < -maxWhole || n > maxWhole {
		return 0, api.ErrNum
	}
	return Num(n * api.Scale), api.OK
}

// Raw: a number that is told times 10000.
func Raw(n int64) (Num, api.Errno) {
	if !good(Num(n)) {
		return 0, api.ErrNum
	}
	return Num(n), api.OK
}

// Add: the sum.
func Add(a, b Num) (Num, api.Errno) {
	if !good(a, b) {
		return 0, api.ErrNum
	}
	// The sum itself might wrap round to a good number, so it is the room that is looked at.
	if b > 0 && a > api.MaxNum-b || b < 0 && a < -api.MaxNum-b {
		return 0, api.ErrNum
	}
	return a + b, api.OK
}

// Sub: the difference.
func Sub(a, b Num) (Num, api.Errno) {
	return Add(a, -b) // the opposite of the least int64 is itself, and so isn't good either
}

// Mul: the product, rounded.
func Mul(a, b Num) (Num, api.Errno) {
	if !good(a, b) {
		return 0, api.ErrNum
	}
	return scaled((a < 0) != (b < 0), size(a), size(b), api.Scale)
}

// Div: the quotient, rounded.
func Div(a, b Num) (Num, api.Errno) {
	if !good(a, b) {
		return 0, api.ErrNum
	}
	if b == 0 {
		return 0, api.ErrZero
	}
	return scaled((a < 0) != (b < 0), size(a), api.Scale, size(b))
}

// Mod: what is left, of the divisor's sign.
func Mod(a, b Num) (Num, api.Errno) {
	if !good(a, b) {
		return 0, api.ErrNum
	}
	if b == 0 {
		return 0, api.ErrZero
	}
	rest := a % b
	if rest != 0 && (rest < 0) != (b < 0) {
		rest += b // Go's quotient goes towards 0, and the promised one down
	}
	return rest, api.OK
}

// Round: with so many places.
func Round(a Num, places int) (Num, api.Errno) {
	if !good(a) {
		return 0, api.ErrNum
	}
	if places < minPlaces || places > maxPlaces {
		return 0, api.ErrArg
	}
	if places >= numPlaces {
		return a, api.OK
	}
	step := power(numPlaces - places)
	steps, _ := nearest(size(a), 1, step) // no more than a itself has, so it is there
	return signed(a < 0, steps*step)      // below 9e18 + 1e18, or 1e19: it fits
}

// Floor: the greatest whole number that isn't above.
func Floor(a Num) Num {
	if !good(a) {
		return 0
	}
	rest, _ := Mod(a, api.Scale)
	return a - rest // not below -MaxNum, for that is whole
}

// Whole: the whole number towards 0.
func Whole(a Num) int64 {
	if !good(a) {
		return 0
	}
	return int64(a / api.Scale)
}

// digits: has it as many decimal digits as Parse takes in a row, and nothing else?
func digits(s string) bool {
	if len(s) < 1 || len(s) > maxDigits {
		return false
	}
	for i := range len(s) {
		if s[i] < '0' || s[i] > '9' {
			return false
		}
	}
	return true
}

// number is what digits tell; of no digits it is 0.
func number(s string) uint64 {
	n := uint64(0)
	for i := range len(s) {
		n = n*10 + uint64(s[i]-'0')
	}
	return n
}

// Parse: the number of a text.
func Parse(s string) (Num, api.Errno) {
	rest, below := strings.CutPrefix(s, "-")
	whole, part, dot := strings.Cut(rest, ".")
	if !digits(whole) || dot && !digits(part) {
		return 0, api.ErrForm
	}
	parts, ok := nearest(number(whole), api.Scale, 1)
	if !ok {
		return 0, api.ErrNum
	}
	more, _ := nearest(number(part), api.Scale, power(len(part))) // at most Scale, so it is there
	return signed(below, parts+more)
}

// Text: the text of a number.
func (a Num) Text() string {
	if !good(a) {
		return ""
	}
	parts := size(a)
	text := strconv.FormatUint(parts/api.Scale, 10)
	if a < 0 {
		text = "-" + text
	}
	left := parts % api.Scale
	if left == 0 {
		return text
	}
	four := strconv.FormatUint(api.Scale+left, 10)[1:] // Scale on top keeps the noughts ahead
	return text + "." + strings.TrimRight(four, "0")
}
