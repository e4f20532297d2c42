package comp

import (
	"cmp"
	"slices"

	"detent/api"
	"detent/cflow"
	"detent/dict"
	"detent/mem"
	"detent/spc"
)

// exitXt is where the code field of `(exit)` stands, the first primitive.
const exitXt = api.AtPrims

// work is a Forth at work, step by step. The first code stays, and with one nothing of the work is handed on: so no step needs to ask how those ahead of it went.
type work struct {
	api.Forth
	code api.Throw
}

// entry is a Forth at work with a word that is laid, and that word's Xt.
type entry struct {
	work
	xt int
}

// laid is a Forth at work with a word laid.
func laid(f api.Forth, name string, flags int, cells ...int) entry {
	e := entry{work: work{Forth: f}}
	e.align()
	e.xt = e.Vm.Here
	e.add(name, e.xt, flags)
	e.cells(cells...)
	return e
}

// behind is the Forth behind the work; with a code, the one ahead of it.
func (w *work) behind(ahead api.Forth) (api.Forth, api.Throw) {
	if w.code != api.OK {
		return ahead, w.code
	}
	return w.Forth, api.OK
}

// fail is told each code of a step, also OK.
func (w *work) fail(code api.Throw) { w.code = cmp.Or(w.code, code) }

// align moves Here on to where a cell may stand.
func (w *work) align() {
	var code api.Throw
	w.Vm.Mem, w.Vm.Here, code = spc.AlignUp(w.Vm.Mem, w.Vm.Here)
	w.fail(code)
}

// cells lays cells, one by one.
func (w *work) cells(row ...int) {
	for _, n := range row {
		var code api.Throw
		w.Vm, code = cflow.Lay(w.Vm, n)
		w.fail(code)
	}
}

// add adds a word.
func (w *work) add(name string, xt, flags int) {
	var code api.Throw
	w.Vm.Dict, code = dict.Add(w.Vm.Dict, name, xt, flags, w.Vm.Conf.Words)
	w.fail(code)
}

// flag gives a word other flags.
func (w *work) flag(at, flags int) {
	var code api.Throw
	w.Vm.Dict, code = dict.Flag(w.Vm.Dict, at, flags)
	w.fail(code)
}

// cut keeps the first words only, and goes back to an end, and to what was created last.
func (w *work) cut(many, here, last int) {
	var code api.Throw
	w.Vm.Dict, code = dict.Cut(w.Vm.Dict, many)
	w.Vm.Here, w.Vm.Last = here, last
	w.fail(code)
}

// answer adds a handler.
func (w *work) answer(h api.Hand) {
	// A row without room behind its end never grows in place: two Forths that come of one don't share their next handler.
	w.Vm.Hand = append(slices.Clip(w.Vm.Hand), h)
}

// state stores a number into STATE.
func (w *work) state(n int) {
	var code api.Throw
	w.Vm.Mem, code = mem.Store(w.Vm.Mem, api.AtState, n)
	w.fail(code)
}

// close leaves no definition that is made.
func (w *work) close() {
	w.state(0)
	w.Comp = api.Comp{}
}
