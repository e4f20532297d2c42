package prim

import (
	"fmt"
	"slices"
	"testing"

	"detent/api"
	"detent/vm"
)

// given is what a word should do: of the cells that it takes, the top one last, it leaves those; or it has the code, and nothing is changed. Ahead of it a busy machine is turned by on; what else is changed by it is told by then. Of what is bare it hangs on that no cells are beneath.
type given struct {
	name string
	in   []int
	out  []int
	code api.Throw
	on   func(*api.Vm)
	then func(*api.Vm)
	bare bool
}

// s is a stack.
func s(n ...int) []int { return n }

// machine is a machine of a case, with cells beneath those that its word takes.
func (g given) machine(v api.Vm, beneath []int) api.Vm {
	v = deep(v)
	if g.on != nil {
		g.on(&v)
	}
	v.D = slices.Concat(beneath, g.in)
	return v
}

// behind is what a machine of a case should be behind its word.
func (g given) behind(v api.Vm, beneath []int) api.Vm {
	if g.code != api.OK {
		return v
	}
	v = deep(v)
	v.D = slices.Concat(beneath, g.out)
	if g.then != nil {
		g.then(&v)
	}
	return v
}

// check holds what a word does to a machine against what it should do, and asks that it changes nothing that it was given.
func check(t *testing.T, what string, v api.Vm, name string, want api.Vm, wantCode api.Throw) {
	t.Helper()
	if !vm.Right(v) {
		t.Fatalf("%s: the machine isn't right ahead of it", what)
	}
	for _, v := range []api.Vm{v, roomy(v)} {
		kept := whole(v)
		got, code := do(t, v, name)
		expect(t, what, got, code, want, wantCode)
		if part := differs(whole(v), kept); part != "" {
			t.Errorf("%s changes what it was given: %s", what, part)
		}
		if !vm.Right(got) {
			t.Errorf("%s: the machine isn't right behind it", what)
		}
	}
}

// checkAll holds words against cases: with just the cells that they take, with more beneath, with fewer, with a full stack, and with room for just what they leave.
func checkAll(t *testing.T, cases []given) {
	t.Helper()
	for i, g := range cases {
		what := fmt.Sprintf("case %d, %s of %v", i, g.name, g.in)
		checkBeneath(t, what, g)
		checkFewer(t, what, g)
		checkFull(t, what, g)
	}
}

// beneath are rows of cells that lie beneath those that a case's word takes.
func (g given) beneath() [][]int {
	if g.bare {
		return [][]int{nil}
	}
	return [][]int{nil, {91}, {0}, {-5, 0, 77, 1 << 40, least, most}}
}

func checkBeneath(t *testing.T, what string, g given) {
	t.Helper()
	for _, beneath := range g.beneath() {
		v := g.machine(busy(t), beneath)
		check(t, fmt.Sprint(what, " above ", beneath), v, g.name, g.behind(v, beneath), g.code)
	}
}

// Under comes ahead of all else: the cells that are left are the same on top, so that each other code is still to be had.
func checkFewer(t *testing.T, what string, g given) {
	t.Helper()
	for k := 1; k <= len(g.in); k++ {
		v := g.machine(busy(t), nil)
		v.D = g.in[k:]
		check(t, fmt.Sprint(what, " without ", k), v, g.name, v, -4)
	}
}

// Over comes behind all else.
func checkFull(t *testing.T, what string, g given) {
	t.Helper()
	for _, beneath := range g.beneath() {
		low := len(beneath)
		for room := max(low+len(g.in), 1); room <= low+len(g.in)+4; room++ {
			v := g.machine(busy(t), beneath)
			v.Conf.Data = room
			what := fmt.Sprint(what, " above ", beneath, " with room for ", room)
			if g.code == api.OK && low+len(g.out) > room {
				check(t, what, v, g.name, v, -3)
			} else {
				check(t, what, v, g.name, g.behind(v, beneath), g.code)
			}
		}
	}
}

// cases are all that are told by hand.
func cases() []given {
	return slices.Concat(shuffleCases(), twoCases(), oneCases(), wideCases(), cellCases(), rangeCases(), pairCases(), roomCases(), knownCases(),
		printCases(), numberCases(), picCases(), bodyCases(), eventCases(), timerCases(), stateCases())
}

// takes are how many cells each word takes, and leaves, as the chapter tells it; of ?DUP, PICK, ROLL and DEPTH at least.
func takes() map[string][2]int {
	return map[string][2]int{
		"DUP": {1, 2}, "DROP": {1, 0}, "SWAP": {2, 2}, "OVER": {2, 3}, "ROT": {3, 3}, "-ROT": {3, 3}, "NIP": {2, 1}, "TUCK": {2, 3}, "?DUP": {1, 1},
		"2DUP": {2, 4}, "2DROP": {2, 0}, "2SWAP": {4, 4}, "2OVER": {4, 6}, "PICK": {2, 2}, "ROLL": {2, 1}, "DEPTH": {0, 1},
		"+": {2, 1}, "-": {2, 1}, "*": {2, 1}, "/": {2, 1}, "MOD": {2, 1}, "AND": {2, 1}, "OR": {2, 1}, "XOR": {2, 1}, "LSHIFT": {2, 1}, "RSHIFT": {2, 1},
		"MIN": {2, 1}, "MAX": {2, 1}, "=": {2, 1}, "<>": {2, 1}, "<": {2, 1}, ">": {2, 1}, "<=": {2, 1}, ">=": {2, 1}, "U<": {2, 1}, "U>": {2, 1},
		"NEGATE": {1, 1}, "ABS": {1, 1}, "INVERT": {1, 1}, "1+": {1, 1}, "1-": {1, 1}, "2*": {1, 1}, "2/": {1, 1},
		"0=": {1, 1}, "0<": {1, 1}, "0<>": {1, 1}, "0>": {1, 1}, "CELLS": {1, 1}, "CELL+": {1, 1}, "ALIGNED": {1, 1},
		"/MOD": {2, 2}, "*/": {3, 1}, "*/MOD": {3, 2}, "UM*": {2, 2}, "UM/MOD": {3, 2}, "M*": {2, 2}, "SM/REM": {3, 2}, "FM/MOD": {3, 2}, "S>D": {1, 2}, "WITHIN": {3, 1},
		"@": {1, 1}, "!": {2, 0}, "+!": {2, 0}, "C@": {1, 1}, "C!": {2, 0}, "2@": {1, 2}, "2!": {3, 0}, "FILL": {3, 0}, "MOVE": {3, 0}, "COUNT": {1, 2},
		"HERE": {0, 1}, "ALLOT": {1, 0}, ",": {1, 0}, "C,": {1, 0}, "ALIGN": {0, 0},
		"BASE": {0, 1}, "STATE": {0, 1}, "TRUE": {0, 1}, "FALSE": {0, 1}, "BL": {0, 1}, "DECIMAL": {0, 0}, "HEX": {0, 0},
		"EMIT": {1, 0}, "CR": {0, 0}, "SPACE": {0, 0}, "SPACES": {1, 0}, "TYPE": {2, 0}, ".": {1, 0}, "U.": {1, 0},
		"<#": {0, 0}, "#": {2, 2}, "#S": {2, 2}, "HOLD": {1, 0}, "SIGN": {1, 0}, "#>": {2, 2}, ">BODY": {1, 1}, "ABORT": {0, 0},
		"POST": {3, 0}, "AFTER": {4, 1}, "EVERY": {4, 1}, "CANCEL": {1, 0}, "ARG": {0, 1}, "SELF": {0, 1}, "NOW": {0, 1},
		"SET-STATE": {2, 0}, "AT-STATE": {3, 0}, "GET-STATE": {1, 1},
	}
}

// Each word has a case in which it has no code, but for ABORT; and in each it takes, and leaves, what the chapter says.
func TestEachWordHasCases(t *testing.T) {
	went := map[string]bool{"ABORT": true}
	for i, g := range cases() {
		many := takes()[g.name]
		went[g.name] = went[g.name] || g.code == api.OK
		switch {
		case slices.Contains([]string{"?DUP", "PICK", "ROLL", "DEPTH"}, g.name):
			continue
		case len(g.in) != many[0] || g.code == api.OK && len(g.out) != many[1] || g.code != api.OK && len(g.out) != 0:
			t.Errorf("case %d, %s of %v: %v", i, g.name, g.in, g.out)
		}
	}
	for name := range numbersByHand() {
		if !went[name] {
			t.Errorf("%s has no case without a code", name)
		}
		if _, known := takes()[name]; !known {
			t.Errorf("of %s it isn't told what it takes", name)
		}
	}
	if len(takes()) != 107 {
		t.Error(len(takes()))
	}
}
