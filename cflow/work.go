package cflow

import (
	"slices"

	"detent/api"
	"detent/mem"
	"detent/spc"
	"detent/vm"
)

// work is a machine into which things are laid, one by one, and the open brackets. The first code stays, and with one nothing of the work is handed on: so no step needs to ask how those ahead of it went.
type work struct {
	api.Vm
	open []api.Cf
	code api.Throw
}

// behind is the machine behind the work; with a code, the one ahead of it.
func (w *work) behind(ahead api.Vm) (api.Vm, api.Throw) {
	if w.code != api.OK {
		return ahead, w.code
	}
	return w.Vm, api.OK
}

// fail is told each code of what is laid, or stored, also OK.
func (w *work) fail(code api.Throw) {
	if w.code == api.OK {
		w.code = code
	}
}

// ask is told whether there are the brackets, and the room for such, that the work needs.
func (w *work) ask(holds bool) {
	if !holds {
		// Whatever was laid so far: this code comes ahead of all others.
		w.code = api.Control
	}
}

// cell lays a cell.
func (w *work) cell(n int) {
	var code api.Throw
	w.Mem, w.Here, code = spc.Comma(w.Mem, w.Here, n)
	w.fail(code)
}

// word lays a primitive.
func (w *work) word(name string) {
	// By its number, not by the dictionary: there another word may have its name.
	w.cell(api.AtPrims + api.Cell*slices.Index(vm.Names(), name))
}

// text lays bytes, and goes on where a cell may stand.
func (w *work) text(s string) {
	var code api.Throw
	w.Mem, w.Here, code = spc.Lay(w.Mem, w.Here, []byte(s))
	w.fail(code)
	w.Mem, w.Here, code = spc.AlignUp(w.Mem, w.Here)
	w.fail(code)
}

// branch lays a primitive that goes to a place, and answers where the cell that tells that place stands.
func (w *work) branch(name string, to int) int {
	w.word(name)
	at := w.Here
	w.cell(to)
	return at
}

// leadHere stores Here into a cell that is to tell where.
func (w *work) leadHere(at int) {
	var code api.Throw
	w.Mem, code = mem.Store(w.Mem, at, w.Here)
	w.fail(code)
}

// push opens a bracket.
func (w *work) push(b api.Cf) {
	w.ask(len(w.open) < mostOpen)
	w.open = append(w.open, b)
}

// pop takes the last open bracket, which has to be of a kind.
func (w *work) pop(kind int) api.Cf {
	last := len(w.open) - 1
	if last < 0 || w.open[last].Kind != kind {
		w.ask(false)
		return api.Cf{}
	}
	b := w.open[last]
	w.open = w.open[:last]
	return b
}

// leave gives the last loop a place more that it is left from.
func (w *work) leave(at int) {
	for i, b := range slices.Backward(w.open) {
		if b.Kind == api.CDo {
			w.ask(len(b.Leaves) < mostLeaves)
			w.open[i].Leaves = append(b.Leaves, at)
			return
		}
	}
	w.ask(false)
}
