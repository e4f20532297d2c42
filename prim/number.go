package prim

import (
	"detent/alu"
	"detent/api"
	"detent/cell"
)

// wideDeeds are what words do that reckon of, or to, more than one cell.
func wideDeeds() map[string]deed {
	return map[string]deed{
		"/MOD": reckons(2, func(s []int) ([]int, api.Throw) { return restFirst(cell.Div(s[0], s[1])) }),
		"*/": reckons(3, func(s []int) ([]int, api.Throw) {
			quotient, _, code := scaled(s)
			return []int{quotient}, code
		}),
		"*/MOD":  reckons(3, func(s []int) ([]int, api.Throw) { return restFirst(scaled(s)) }),
		"UM*":    multiplied(cell.UMul),
		"UM/MOD": divided(cell.UDiv),
		"M*":     multiplied(cell.Mul),
		"SM/REM": divided(cell.SDiv),
		"FM/MOD": divided(cell.FDiv),
		"S>D": reckons(1, func(s []int) ([]int, api.Throw) {
			return []int{s[0], truth(s[0] < 0)}, api.OK
		}),
		"WITHIN": reckons(3, func(s []int) ([]int, api.Throw) {
			return []int{truth(alu.Within(s[0], s[1], s[2]))}, api.OK
		}),
	}
}

// multiplied is the deed of a word that leaves two cells' product as a pair.
func multiplied(product func(a, b int) (int, int)) deed {
	return reckons(2, func(s []int) ([]int, api.Throw) {
		low, high := product(s[0], s[1])
		return []int{low, high}, api.OK
	})
}

// divided is the deed of a word that leaves a pair's rest and quotient.
func divided(quotient func(low, high, by int) (int, int, api.Throw)) deed {
	return reckons(3, func(s []int) ([]int, api.Throw) { return restFirst(quotient(s[0], s[1], s[2])) })
}

// scaled is the quotient of two cells' product by a third one, and the rest.
func scaled(s []int) (int, int, api.Throw) {
	low, high := cell.Mul(s[0], s[1])
	return cell.FDiv(low, high, s[2])
}

// restFirst is a quotient and a rest as they are left: the quotient on top.
func restFirst(quotient, rest int, code api.Throw) ([]int, api.Throw) {
	return []int{rest, quotient}, code
}

// truth is what is left of a question.
func truth(is bool) int {
	if is {
		return -1
	}
	return 0
}
