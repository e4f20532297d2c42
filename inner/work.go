package inner

import (
	"slices"

	"detent/api"
	"detent/mem"
	"detent/vm"
)

// mostFrames is how many CATCHes may be in one another.
const mostFrames = 64

// work is a run in which a word is done, step by step. The first error stays, and what is done behind it doesn't count: so a word needn't ask behind each step, and its codes come in the order of its steps.
type work struct {
	api.Run
	err error
}

// fail is told each code, also OK.
func (w *work) fail(code api.Throw) {
	if code != api.OK && w.err == nil {
		w.err = thrown{code}
	}
}

// push puts a cell on the data stack.
func (w *work) push(n int) {
	var code api.Throw
	w.Vm, code = vm.Push(w.Vm, n)
	w.fail(code)
}

// pop takes the top cell of the data stack.
func (w *work) pop() int {
	n, v, code := vm.Pop(w.Vm)
	w.Vm = v
	w.fail(code)
	return n
}

// rPush puts a cell on the return stack.
func (w *work) rPush(n int) {
	var code api.Throw
	w.Vm, code = vm.RPush(w.Vm, n)
	w.fail(code)
}

// rPop takes the top cell of the return stack.
func (w *work) rPop() int {
	n, v, code := vm.RPop(w.Vm)
	w.Vm = v
	w.fail(code)
	return n
}

// rAt is a cell of the return stack, by its number from the top, from 1 on.
func (w *work) rAt(nth int) int {
	at := len(w.Vm.R) - nth
	if at < 0 {
		w.fail(api.RUnder)
		return 0
	}
	return w.Vm.R[at]
}

// fetch is the cell at a place.
func (w *work) fetch(at int) int {
	n, code := mem.Fetch(w.Vm.Mem, at)
	w.fail(code)
	return n
}

// store lays a cell at a place.
func (w *work) store(at, n int) {
	var code api.Throw
	w.Vm.Mem, code = mem.Store(w.Vm.Mem, at, n)
	w.fail(code)
}

// skip goes on behind the next cell, whether it is there or not.
func (w *work) skip() { w.Ip += api.Cell }

// jump goes on where the next cell says.
func (w *work) jump() { w.Ip = w.fetch(w.Ip) }

// enter goes on at a place, and will come back by `(exit)`.
func (w *work) enter(at int) {
	w.rPush(w.Ip)
	w.Ip = at
}

// then has a word done next.
func (w *work) then(xt int) { w.W, w.Do = xt, true }

// frame makes a frame of what there is.
func (w *work) frame() {
	if len(w.Vm.F) >= mostFrames {
		w.fail(api.ROver)
		return
	}
	f := api.Frame{D: len(w.Vm.D), R: len(w.Vm.R), Ip: w.Ip}
	// A row of its own: two machines that come of one would share the end of one that grows in place.
	w.Vm.F = slices.Concat(w.Vm.F, []api.Frame{f})
}

// unframe takes the last frame, and goes on where it says.
func (w *work) unframe() {
	f, v, code := popFrame(w.Vm)
	w.Vm = v
	w.fail(code)
	w.Ip = f.Ip
}
