package inner

import (
	"detent/alu"
	"detent/api"
	"detent/mem"
	"detent/prim"
	"detent/vm"
)

// The numbers of the primitives by which threaded code goes on.
const (
	exit = iota
	lit
	branch
	branchIfNo
	do
	doIfAny
	loop
	loopBy
	halt
	caught
	does
	str
	execute
	catch
	throw
	index
	outerIndex
	unloop
	toR
	fromR
	copyR
	twoToR
	twoFromR
)

// How far a word's body is from its code field, and, from the body of a machine of states on, how many states there are, and the words that they do.
const (
	bodyAt   = 2 * api.Cell
	manyAt   = api.Cell
	statesAt = 2 * api.Cell
)

// word does a word, by its code field.
func (w *work) word(xt int) {
	kind, code := vm.Kind(w.Vm, xt)
	switch {
	case code != api.OK:
		w.fail(code)
	case prim.Does(kind):
		w.Vm, code = prim.Do(w.Vm, kind)
		w.fail(code)
	case kind >= api.Special:
		w.fail(api.OnlyComp)
	case kind >= api.DoCol:
		w.made(kind, xt)
	default:
		w.own(kind)
	}
}

// made does a word that was made by others.
func (w *work) made(kind, xt int) {
	body := xt + bodyAt
	switch kind {
	case api.DoCol:
		w.enter(xt + api.Cell)
	case api.DoVar:
		w.push(body)
	case api.DoCon:
		w.push(w.fetch(body))
	case api.DoDoes:
		deed := w.fetch(xt + api.Cell)
		w.push(body)
		w.enter(deed)
	case api.DoMach:
		w.state(body)
	}
}

// state does the word of a state, by the body of a machine of states.
func (w *work) state(body int) {
	s, many := w.fetch(body), w.fetch(body+manyAt)
	if s < 0 || s >= many {
		w.fail(api.BadNumber)
		return
	}
	if xt := w.fetch(body + statesAt + api.Cell*s); xt != 0 {
		w.then(xt)
	}
}

// own does a primitive of this layer.
func (w *work) own(n int) {
	switch n {
	case do, doIfAny:
		w.beginLoop(n)
	case loop, loopBy:
		w.endLoop(n)
	case execute, catch, throw:
		w.handOn(n)
	case index, outerIndex, unloop, toR, fromR, copyR, twoToR, twoFromR:
		w.turn(n)
	default:
		w.goOn(n)
	}
}

// goOn does a word that is laid, and that no name tells.
func (w *work) goOn(n int) {
	switch n {
	case exit:
		w.Ip = w.rPop()
	case lit:
		w.push(w.fetch(w.Ip))
		w.skip()
	case branch:
		w.jump()
	case branchIfNo:
		if w.pop() == 0 {
			w.jump()
		} else {
			w.skip()
		}
	case halt:
		w.err = errHalt
	case caught:
		w.unframe()
		w.push(0)
	case does:
		w.giveDeed()
	case str:
		w.text()
	}
}

// giveDeed gives the word that was made last the code behind as its deed, and leaves that code.
func (w *work) giveDeed() {
	last := w.Vm.Last
	// Where there is no code field its number is 0, which is none of these either.
	kind, _ := vm.Kind(w.Vm, last)
	if last == 0 || kind != api.DoVar && kind != api.DoDoes {
		w.fail(api.NoBody)
		return
	}
	w.store(last, api.DoDoes)
	w.store(last+api.Cell, w.Ip)
	w.Ip = w.rPop()
}

// text leaves the place of the text behind the next cell, and how many bytes it has.
func (w *work) text() {
	n := w.fetch(w.Ip)
	w.skip()
	at := w.Ip
	_, code := mem.Text(w.Vm.Mem, at, n)
	w.fail(code)
	w.Ip, _ = alu.One("ALIGNED", at+n)
	w.push(at)
	w.push(n)
}

// beginLoop does a word that a loop begins with.
func (w *work) beginLoop(n int) {
	i, l := w.pop(), w.pop()
	switch n {
	case doIfAny:
		if i == l {
			w.jump()
			return
		}
		w.skip()
		fallthrough
	case do:
		w.rPush(l)
		w.rPush(i)
	}
}

// endLoop does a word that a loop ends with.
func (w *work) endLoop(n int) {
	by := 1
	switch n {
	case loopBy:
		by = w.pop()
		fallthrough
	case loop:
		i, l := w.rPop(), w.rPop()
		i, over := alu.Step(i, l, by)
		if over {
			w.skip()
			return
		}
		w.jump()
		w.rPush(l)
		w.rPush(i)
	}
}

// handOn does a word that hands on to another word, or to a frame.
func (w *work) handOn(n int) {
	x := w.pop()
	switch n {
	case catch:
		w.frame()
		w.Ip = api.AtCaught
		fallthrough
	case execute:
		w.then(x)
	case throw:
		w.fail(api.Throw(x))
	}
}

// turn does a word that brings cells from one stack to the other, or drops such.
func (w *work) turn(n int) {
	switch n {
	case index, copyR:
		w.push(w.rAt(1))
	case outerIndex:
		w.push(w.rAt(3))
	case unloop:
		w.rPop()
		w.rPop()
	case toR:
		w.rPush(w.pop())
	case fromR:
		w.push(w.rPop())
	case twoToR:
		y, x := w.pop(), w.pop()
		w.rPush(x)
		w.rPush(y)
	case twoFromR:
		y, x := w.rPop(), w.rPop()
		w.push(x)
		w.push(y)
	}
}
