package prim

import (
	"detent/api"
	"detent/mem"
	"detent/spc"
	"detent/vm"
)

// cellDeeds are what words do that fetch and store.
func cellDeeds() map[string]deed {
	return map[string]deed{
		"@":     fetchesOne(mem.Fetch),
		"!":     stores(2, func(m api.Mem, s []int) (api.Mem, api.Throw) { return mem.Store(m, s[1], s[0]) }),
		"+!":    stores(2, func(m api.Mem, s []int) (api.Mem, api.Throw) { return raised(m, s[1], s[0]) }),
		"C@":    fetchesOne(mem.FetchByte),
		"C!":    stores(2, func(m api.Mem, s []int) (api.Mem, api.Throw) { return mem.StoreByte(m, s[1], s[0]) }),
		"2@":    fetches(bothFetched),
		"2!":    stores(3, func(m api.Mem, s []int) (api.Mem, api.Throw) { return bothStored(m, s[2], s[1], s[0]) }),
		"FILL":  stores(3, func(m api.Mem, s []int) (api.Mem, api.Throw) { return mem.Fill(m, s[0], s[1], s[2]) }),
		"MOVE":  stores(3, func(m api.Mem, s []int) (api.Mem, api.Throw) { return mem.Move(m, s[0], s[1], s[2]) }),
		"COUNT": fetches(counted),
	}
}

// raised is a memory whose cell at a place has a number more.
func raised(m api.Mem, at, n int) (api.Mem, api.Throw) {
	there, code := mem.Fetch(m, at)
	if code != api.OK {
		return m, code
	}
	return mem.Store(m, at, there+n)
}

// bothFetched are the cell behind a place's, and that one on top.
func bothFetched(m api.Mem, at int) ([]int, api.Throw) {
	top, code := mem.Fetch(m, at)
	if code != api.OK {
		return nil, code
	}
	next, code := mem.Fetch(m, at+api.Cell)
	return []int{next, top}, code
}

// bothStored is a memory with a cell at a place, and another one behind it.
func bothStored(m api.Mem, at, top, next int) (api.Mem, api.Throw) {
	m, code := mem.Store(m, at, top)
	if code != api.OK {
		return m, code
	}
	return mem.Store(m, at+api.Cell, next)
}

// counted are the place behind a byte, and that byte.
func counted(m api.Mem, at int) ([]int, api.Throw) {
	n, code := mem.FetchByte(m, at)
	return []int{at + 1, n}, code
}

// roomDeeds are what words do that lay things one behind the other.
func roomDeeds() map[string]deed {
	return map[string]deed{
		"HERE": tells(func(v api.Vm) int { return v.Here }),
		"ALLOT": lays(1, func(m api.Mem, here int, s []int) (api.Mem, int, api.Throw) {
			here, code := spc.Allot(m, vm.Start(), here, s[0])
			return m, here, code
		}),
		",": lays(1, func(m api.Mem, here int, s []int) (api.Mem, int, api.Throw) {
			return spc.Comma(m, here, s[0])
		}),
		"C,": lays(1, func(m api.Mem, here int, s []int) (api.Mem, int, api.Throw) {
			return spc.Lay(m, here, []byte{byte(s[0])})
		}),
		"ALIGN": lays(0, func(m api.Mem, here int, _ []int) (api.Mem, int, api.Throw) {
			return spc.AlignUp(m, here)
		}),
	}
}

// knownDeeds are what words do that tell what is always so, and that choose a base.
func knownDeeds() map[string]deed {
	return map[string]deed{
		"BASE":    known(api.AtBase),
		"STATE":   known(api.AtState),
		"TRUE":    known(truth(true)),
		"FALSE":   known(truth(false)),
		"BL":      known(' '),
		"DECIMAL": based(10),
		"HEX":     based(16),
	}
}

// known is the deed of a word that leaves always the same number.
func known(n int) deed {
	return tells(func(api.Vm) int { return n })
}

// based is the deed of a word that chooses a base.
func based(n int) deed {
	return stores(0, func(m api.Mem, _ []int) (api.Mem, api.Throw) { return mem.Store(m, api.AtBase, n) })
}
