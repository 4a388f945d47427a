// Package arith is what operators make of integers and texts, for all layers that run programs.
package arith

import "bushel/api"

// Ints is what an operator makes of two integers, or a fault; it tells whether there is such an operator.
func Ints(s string, a, b int64) (n int64, fault int, is bool) {
	switch s {
	case "+":
		return a + b, 0, true
	case "-":
		return a - b, 0, true
	case "*":
		return a * b, 0, true
	case "/":
		if b == 0 {
			return 0, api.DivZero, true
		}
		return a / b, 0, true
	case "<":
		return truth(a < b), 0, true
	case "==":
		return truth(a == b), 0, true
	}
	return 0, 0, false
}

// truth is 1 or 0.
func truth(is bool) int64 {
	if is {
		return 1
	}
	return 0
}

// Join is two texts, one behind the other, or a fault.
func Join(a, b string) (s string, fault int) {
	if len(a)+len(b) > api.MaxText {
		return "", api.IndexRange
	}
	return a + b, 0
}

// Byte is a text's byte at a place, or a fault.
func Byte(s string, at int64) (n int64, fault int) {
	if at < 0 || at >= int64(len(s)) {
		return 0, api.IndexRange
	}
	return int64(s[at]), 0
}

// Line is the first line, and those behind it, or a fault.
func Line(input []string) (line string, rest []string, fault int) {
	if len(input) == 0 {
		return "", nil, api.InputEnd
	}
	if len(input[0]) > api.MaxText {
		return "", nil, api.IndexRange
	}
	return input[0], input[1:], 0
}
