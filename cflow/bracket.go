package cflow

import "detent/api"

// deeds are what brackets do, by their names.
func deeds() map[string]func(*work) {
	return map[string]func(*work){
		"IF":     (*work).layIf,
		"ELSE":   (*work).layElse,
		"THEN":   (*work).layThen,
		"BEGIN":  (*work).layBegin,
		"WHILE":  (*work).layWhile,
		"REPEAT": (*work).layRepeat,
		"UNTIL":  (*work).layUntil,
		"AGAIN":  (*work).layAgain,
		"DO":     (*work).layDo,
		"?DO":    (*work).layDoIfAny,
		"LOOP":   (*work).layLoop,
		"+LOOP":  (*work).layLoopBy,
		"LEAVE":  (*work).layLeave,
	}
}

func (w *work) layIf() { w.goAhead("(0branch)") }

func (w *work) layElse() {
	b := w.pop(api.COrig)
	w.goAhead("(branch)")
	w.leadHere(b.At)
}

func (w *work) layThen() { w.leadHere(w.pop(api.COrig).At) }

func (w *work) layBegin() { w.push(api.Cf{Kind: api.CDest, At: w.Here}) }

func (w *work) layWhile() {
	back := w.pop(api.CDest)
	w.goAhead("(0branch)")
	w.push(back)
}

func (w *work) layRepeat() {
	back, ahead := w.pop(api.CDest), w.pop(api.COrig)
	w.branch("(branch)", back.At)
	w.leadHere(ahead.At)
}

func (w *work) layUntil() { w.branch("(0branch)", w.pop(api.CDest).At) }

func (w *work) layAgain() { w.branch("(branch)", w.pop(api.CDest).At) }

func (w *work) layDo() {
	w.word("(do)")
	w.push(api.Cf{Kind: api.CDo, At: w.Here})
}

func (w *work) layDoIfAny() {
	at := w.branch("(?do)", 0)
	w.push(api.Cf{Kind: api.CDo, At: w.Here, Leaves: []int{at}})
}

func (w *work) layLoop() { w.endLoop("(loop)") }

func (w *work) layLoopBy() { w.endLoop("(+loop)") }

func (w *work) layLeave() {
	w.word("UNLOOP")
	w.leave(w.branch("(branch)", 0))
}

// goAhead lays a branch that goes ahead, and opens its bracket.
func (w *work) goAhead(name string) {
	w.push(api.Cf{Kind: api.COrig, At: w.branch(name, 0)})
}

// endLoop lays the end of the last loop.
func (w *work) endLoop(name string) {
	b := w.pop(api.CDo)
	w.branch(name, b.At)
	for _, at := range b.Leaves {
		w.leadHere(at)
	}
}
