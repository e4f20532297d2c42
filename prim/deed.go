package prim

import (
	"slices"

	"detent/api"
	"detent/mem"
	"detent/vm"
)

// deed is what a word does to a machine.
type deed func(api.Vm) (api.Vm, api.Throw)

// taking is the deed of a word that takes so many cells. Of these, the top one last, act makes the machine behind the word, and what is left in their place.
func taking(many int, act func(api.Vm, []int) (api.Vm, []int, api.Throw)) deed {
	return func(v api.Vm) (api.Vm, api.Throw) {
		low := len(v.D) - many
		if low < 0 {
			return v, api.Under
		}
		out, left, code := act(v, v.D[low:])
		if code != api.OK {
			return v, code
		}
		if low+len(left) > v.Conf.Data {
			return v, api.Over
		}
		// A row of its own: two machines that come of one would share the end of one that grows in place.
		out.D = slices.Concat(v.D[:low], left)
		return out, api.OK
	}
}

// reckons is the deed of a word that makes cells of others alone.
func reckons(many int, of func([]int) ([]int, api.Throw)) deed {
	return taking(many, func(v api.Vm, s []int) (api.Vm, []int, api.Throw) {
		left, code := of(s)
		return v, left, code
	})
}

// tells is the deed of a word that leaves one number of the machine.
func tells(of func(api.Vm) int) deed {
	return taking(0, func(v api.Vm, _ []int) (api.Vm, []int, api.Throw) {
		return v, []int{of(v)}, api.OK
	})
}

// turns is the deed of a word that leaves no cell.
func turns(many int, act func(api.Vm, []int) (api.Vm, api.Throw)) deed {
	return taking(many, func(v api.Vm, s []int) (api.Vm, []int, api.Throw) {
		out, code := act(v, s)
		return out, nil, code
	})
}

// fetches is the deed of a word that takes a place, and leaves cells that memory tells of it.
func fetches(of func(api.Mem, int) ([]int, api.Throw)) deed {
	return taking(1, func(v api.Vm, s []int) (api.Vm, []int, api.Throw) {
		left, code := of(v.Mem, s[0])
		return v, left, code
	})
}

// fetchesOne is the deed of such a word that leaves one cell.
func fetchesOne(of func(api.Mem, int) (int, api.Throw)) deed {
	return fetches(func(m api.Mem, at int) ([]int, api.Throw) {
		n, code := of(m, at)
		return []int{n}, code
	})
}

// stores is the deed of a word that leaves no cell, and changes nothing but memory.
func stores(many int, act func(api.Mem, []int) (api.Mem, api.Throw)) deed {
	return turns(many, func(v api.Vm, s []int) (api.Vm, api.Throw) {
		var code api.Throw
		v.Mem, code = act(v.Mem, s)
		return v, code
	})
}

// lays is the deed of a word that leaves no cell, and lays something at the end of what was laid.
func lays(many int, act func(m api.Mem, here int, s []int) (api.Mem, int, api.Throw)) deed {
	return turns(many, func(v api.Vm, s []int) (api.Vm, api.Throw) {
		var code api.Throw
		v.Mem, v.Here, code = act(v.Mem, v.Here, s)
		return v, code
	})
}

// prints is the deed of a word that leaves no cell, and puts out a text.
func prints(many int, of func(api.Vm, []int) (string, api.Throw)) deed {
	return turns(many, func(v api.Vm, s []int) (api.Vm, api.Throw) {
		text, code := of(v, s)
		if code != api.OK {
			return v, code
		}
		return vm.Print(v, text)
	})
}

// holds is the deed of a word that takes a number, and lays it into the text under way.
func holds(act func(api.Pic, int) (api.Pic, api.Throw)) deed {
	return turns(1, func(v api.Vm, s []int) (api.Vm, api.Throw) {
		var code api.Throw
		v.Pic, code = act(v.Pic, s[0])
		return v, code
	})
}

// base is a machine's base.
func base(v api.Vm) int {
	// No code can come: each memory of a machine has that cell.
	n, _ := mem.Fetch(v.Mem, api.AtBase)
	return n
}
