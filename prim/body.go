package prim

import (
	"detent/api"
	"detent/mem"
	"detent/vm"
)

// How far a word's body is from its code field, and, from the body of a machine of states on, how many states there are, and the words that they do.
const (
	bodyAt   = 2 * api.Cell
	manyAt   = api.Cell
	statesAt = 2 * api.Cell
)

// wordDeeds are what the words do that tell where a word's body stands, and that end all.
func wordDeeds() map[string]deed {
	return map[string]deed{
		">BODY": taking(1, func(v api.Vm, s []int) (api.Vm, []int, api.Throw) {
			return v, []int{s[0] + bodyAt}, bodyCode(v, s[0])
		}),
		"ABORT": turns(0, func(v api.Vm, _ []int) (api.Vm, api.Throw) { return v, api.Abort }),
	}
}

// bodyCode is why a word has no body, or OK.
func bodyCode(v api.Vm, xt int) api.Throw {
	kind, code := vm.Kind(v, xt)
	if code != api.OK {
		return code
	}
	switch kind {
	case api.DoVar, api.DoCon, api.DoDoes, api.DoMach:
		return api.OK
	}
	return api.NoBody
}

// stateDeeds are what words do to a machine of states, by the place of its body.
func stateDeeds() map[string]deed {
	return map[string]deed{
		"SET-STATE": stores(2, func(m api.Mem, s []int) (api.Mem, api.Throw) {
			state, body := s[0], s[1]
			if code := stateCode(m, body, state); code != api.OK {
				return m, code
			}
			return mem.Store(m, body, state)
		}),
		"AT-STATE": stores(3, func(m api.Mem, s []int) (api.Mem, api.Throw) {
			xt, state, body := s[0], s[1], s[2]
			if code := stateCode(m, body, state); code != api.OK {
				return m, code
			}
			return mem.Store(m, body+statesAt+api.Cell*state, xt)
		}),
		"GET-STATE": fetchesOne(mem.Fetch),
	}
}

// stateCode is why a machine of states has no such state, or OK.
func stateCode(m api.Mem, body, state int) api.Throw {
	many, code := mem.Fetch(m, body+manyAt)
	if code != api.OK {
		return code
	}
	if state < 0 || state >= many {
		return api.BadNumber
	}
	return api.OK
}
