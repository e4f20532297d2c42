package comp

import (
	"encoding/binary"
	"fmt"
	"math"
	"reflect"
	"slices"
	"sync"
	"testing"

	"detent/api"
	"detent/vm"
)

const (
	least = math.MinInt
	most  = math.MaxInt
)

// How many words busy has: all primitives and specials, and four behind them.
const busyWords = 171

// newOnce is made once for all tests, as a new machine takes its time.
var newOnce = sync.OnceValues(func() (api.Vm, api.Throw) {
	return vm.New(api.Conf{Mem: 2048, Data: 30, Ret: 24, Words: 300, Out: 200})
})

// fresh is a Forth of a new machine of 2048 bytes.
func fresh(t *testing.T) api.Forth {
	t.Helper()
	v, code := newOnce()
	if code != api.OK {
		t.Fatal("New:", code)
	}
	return deep(api.Forth{Vm: v})
}

// greatest is a Forth of a new machine that has as much as may be.
func greatest(t *testing.T) api.Forth {
	t.Helper()
	v, code := vm.New(api.Conf{Mem: 65536, Data: 256, Ret: 256, Words: 1024, Out: 65536})
	if code != api.OK {
		t.Fatal("New:", code)
	}
	return api.Forth{Vm: v}
}

// busy is a right Forth of 2048 bytes of whose machine each part has something, and whose end is at a place: from 1368 on no byte is 00. No definition is made.
func busy(t *testing.T, here int) api.Forth {
	t.Helper()
	f := fresh(t)
	v := &f.Vm
	for at := 1368; at < 2048; at++ {
		v.Mem.B[at] = byte(1 + (at-1368)%250)
	}
	v.Mem.Old = []api.Patch{{At: 1368, Old: []byte{7}}, {At: 1400, Old: []byte{8, 9}}, {At: 5000, Old: nil}}
	v.Here = here
	v.D, v.R, v.F = []int{11, -12, 13}, []int{21, 22}, []api.Frame{{D: 1, R: 2, Ip: 1400}}
	v.Dict = append(v.Dict, api.Word{Name: "a", Xt: 1368}, api.Word{Name: "Two", Xt: 1376, Flags: 4}, api.Word{Name: "TWO", Xt: 1384, Flags: 5}, api.Word{Name: "hid", Xt: 1392, Flags: 2})
	v.Last = 1376
	v.Out = []byte("25 -7 ")
	v.Pic = api.Pic{B: []byte("321"), On: true}
	v.Req = []api.Req{{Kind: 1, Arg: 5, Hand: 1, Rank: 2, Delay: 3, Id: 4}}
	v.Free, v.Next, v.Arg, v.Self, v.Now = 3, 9, -77, 1, 1000
	v.Hand = []api.Hand{{Xt: 1368, Fuel: 50, Strikes: 1}, {Xt: 1376, Fuel: 60, Strikes: 2, Out: true}}
	if !vm.Right(f.Vm) || len(v.Dict) != busyWords {
		t.Fatal("the machine isn't what it should be")
	}
	return f
}

// making is busy while a definition is made: it is the word hid, at 1392; no bracket is open.
func making(t *testing.T, here int) api.Forth {
	t.Helper()
	f := busy(t, here)
	f.Comp = api.Comp{Xt: 1392, Here: 1390, Dict: busyWords - 1, Last: -3, Fuel: 70}
	binary.LittleEndian.PutUint64(f.Vm.Mem.B[8:], uint64(1<<64-1))
	return f
}

// answering is making, of a handler.
func answering(t *testing.T, here int) api.Forth {
	t.Helper()
	f := making(t, here)
	f.Comp.On = true
	return f
}

// bracketed is a Forth with open brackets.
func bracketed(f api.Forth) api.Forth {
	f = deep(f)
	f.Comp.Cf = []api.Cf{{Kind: 1, At: 1400}, {Kind: 3, At: 1408, Leaves: []int{1416, 1424}}}
	return f
}

// with is a Forth in which something is turned.
func with(f api.Forth, turn func(f *api.Forth)) api.Forth {
	f = deep(f)
	turn(&f)
	return f
}

// withHands is a Forth with so many handlers.
func withHands(f api.Forth, many int) api.Forth {
	return with(f, func(f *api.Forth) {
		f.Vm.Hand = nil
		for i := range many {
			f.Vm.Hand = append(f.Vm.Hand, api.Hand{Xt: 1368, Fuel: i, Strikes: i % 3, Out: i%5 == 0})
		}
	})
}

// copied is a value in memory of its own, each row with the room behind its end; up to is where a row then ends.
func copied(x reflect.Value, upTo func(reflect.Value) int) reflect.Value {
	out := reflect.New(x.Type()).Elem()
	out.Set(x)
	switch {
	case x.Kind() == reflect.Struct:
		for i := range x.NumField() {
			out.Field(i).Set(copied(x.Field(i), upTo))
		}
	case x.Kind() == reflect.Slice && x.Cap() > 0:
		row := reflect.MakeSlice(x.Type(), x.Cap(), x.Cap())
		reflect.Copy(row, x.Slice(0, x.Cap()))
		// Words have no rows, and of bytes and numbers that is all, too.
		switch x.Type().Elem() {
		case reflect.TypeFor[api.Patch](), reflect.TypeFor[api.Cf]():
			for i := range x.Cap() {
				row.Index(i).Set(copied(row.Index(i), upTo))
			}
		}
		out.Set(row.Slice(0, upTo(x)))
	}
	return out
}

// deep is a value that shares nothing with another one.
func deep[T any](x T) T {
	return copied(reflect.ValueOf(&x).Elem(), reflect.Value.Len).Interface().(T)
}

// whole is a value each of whose rows goes on to the end of its room.
func whole[T any](x T) T {
	return copied(reflect.ValueOf(&x).Elem(), reflect.Value.Cap).Interface().(T)
}

// spare is a row that has room behind its end, with something in it.
func spare[T any](row []T, x T) []T { return append(row[:len(row):len(row)], x, x, x, x)[:len(row)] }

// roomy is a Forth whose rows have room behind their ends.
func roomy(f api.Forth) api.Forth {
	f = deep(f)
	v, c := &f.Vm, &f.Comp
	v.Mem.B, v.Mem.Old = spare(v.Mem.B, 77), spare(v.Mem.Old, api.Patch{At: 1, Old: []byte{1}})
	v.D, v.R, v.F = spare(v.D, 901), spare(v.R, 911), spare(v.F, api.Frame{D: 9})
	v.Dict, v.Hand = spare(v.Dict, api.Word{Name: "spare", Xt: 1400}), spare(v.Hand, api.Hand{Xt: 921})
	v.Out, v.Pic.B, v.Req = spare(v.Out, 'x'), spare(v.Pic.B, 'y'), spare(v.Req, api.Req{Id: 931})
	for i := range c.Cf {
		c.Cf[i].Leaves = spare(c.Cf[i].Leaves, 941)
	}
	c.Cf = spare(c.Cf, api.Cf{Kind: 9, At: 951})
	return f
}

// differ is the first place in which two values differ, or nothing; rows without elements are the same.
func differ(what string, a, b reflect.Value) string {
	switch a.Kind() {
	case reflect.Struct:
		for i := range a.NumField() {
			if part := differ(what+"."+a.Type().Field(i).Name, a.Field(i), b.Field(i)); part != "" {
				return part
			}
		}
	case reflect.Slice:
		if a.Len() != b.Len() {
			return fmt.Sprintf("%s of %d, not %d", what, a.Len(), b.Len())
		}
		for i := range a.Len() {
			if part := differ(fmt.Sprint(what, " at ", i), a.Index(i), b.Index(i)); part != "" {
				return part
			}
		}
	default:
		if !a.Equal(b) {
			return fmt.Sprintf("%s: %v, not %v", what, a, b)
		}
	}
	return ""
}

// differs is the first part in which two Forths differ, or nothing.
func differs(a, b api.Forth) string {
	if reflect.DeepEqual(a, b) {
		return ""
	}
	return differ("Forth", reflect.ValueOf(a), reflect.ValueOf(b))
}

// written is a Forth in which bytes were written at a place.
func written(f api.Forth, at int, b []byte) api.Forth {
	return with(f, func(f *api.Forth) {
		m := &f.Vm.Mem
		m.Old = append(m.Old, api.Patch{At: at, Old: slices.Clone(m.B[at : at+len(b)])})
		copy(m.B[at:], b)
	})
}

// bytesOf is a cell's bytes.
func bytesOf(n int) []byte { return binary.LittleEndian.AppendUint64(nil, uint64(n)) }

// withState is a Forth in which a number was stored into STATE.
func withState(f api.Forth, n int) api.Forth { return written(f, 8, bytesOf(n)) }

// withCells is a Forth in which cells were laid, one by one.
func withCells(f api.Forth, cells ...int) api.Forth {
	for _, n := range cells {
		f = written(f, f.Vm.Here, bytesOf(n))
		f.Vm.Here += 8
	}
	return f
}

// aligned is a Forth whose end was moved to where a cell may stand.
func aligned(f api.Forth) api.Forth {
	if n := (8 - f.Vm.Here%8) % 8; n > 0 {
		f = written(f, f.Vm.Here, make([]byte, n))
		f.Vm.Here += n
	}
	return f
}

// withWord is a Forth in which a word was laid; and its Xt.
func withWord(f api.Forth, name string, flags int, cells ...int) (api.Forth, int) {
	f = aligned(f)
	xt := f.Vm.Here
	f = with(f, func(f *api.Forth) { f.Vm.Dict = append(f.Vm.Dict, api.Word{Name: name, Xt: xt, Flags: flags}) })
	return withCells(f, cells...), xt
}

// begun is a Forth in which a definition was begun.
func begun(f api.Forth, name string, on bool, fuel int) api.Forth {
	out, xt := withWord(f, name, 2, 256)
	out = withState(out, -1)
	out.Comp = api.Comp{Xt: xt, Here: f.Vm.Here, Dict: len(f.Vm.Dict), Last: f.Vm.Last, On: on, Fuel: fuel}
	return out
}

// cellAt is the cell at a place.
func cellAt(f api.Forth, at int) int { return int(binary.LittleEndian.Uint64(f.Vm.Mem.B[at:])) }

// act is a call that makes a Forth of another one.
type act func(api.Forth) (api.Forth, api.Throw)

// check holds what a call answers against what it should, and asks that it changes nothing that it was given, and that the Forth stays right.
func check(t *testing.T, what string, f api.Forth, call act, want api.Forth, wantCode api.Throw) {
	t.Helper()
	if !Right(f) {
		t.Fatalf("%s: the Forth isn't right ahead of it", what)
	}
	for _, f := range []api.Forth{f, roomy(f)} {
		kept := whole(f)
		got, code := call(f)
		if code != wantCode {
			t.Errorf("%s: code %d, want %d", what, code, wantCode)
		}
		if part := differs(got, want); part != "" {
			t.Errorf("%s: %s", what, part)
		}
		if !reflect.DeepEqual(whole(f), kept) {
			t.Errorf("%s changes the Forth that it was given", what)
		}
		if !Right(got) {
			t.Errorf("%s: the Forth isn't right behind it", what)
		}
	}
}

// refused asks that a call has a code, and changes nothing.
func refused(t *testing.T, what string, f api.Forth, call act, code api.Throw) {
	t.Helper()
	check(t, what, f, call, f, code)
}

// The calls, as acts.
func begin(name string, on bool, fuel int) act {
	return func(f api.Forth) (api.Forth, api.Throw) { return Begin(f, name, on, fuel) }
}

func undo(f api.Forth) (api.Forth, api.Throw) { return Undo(f), api.OK }

func create(name string) act {
	return func(f api.Forth) (api.Forth, api.Throw) { return Create(f, name) }
}

func variable(name string) act {
	return func(f api.Forth) (api.Forth, api.Throw) { return Variable(f, name) }
}

func constant(name string, n int) act {
	return func(f api.Forth) (api.Forth, api.Throw) { return Constant(f, name, n) }
}

func machine(name string, n int) act {
	return func(f api.Forth) (api.Forth, api.Throw) { return Machine(f, name, n) }
}

func forget(name string) act {
	return func(f api.Forth) (api.Forth, api.Throw) { return Forget(f, name) }
}
