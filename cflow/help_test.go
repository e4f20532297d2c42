package cflow

import (
	"bytes"
	"encoding/binary"
	"math"
	"reflect"
	"slices"
	"sync"
	"testing"

	"detent/api"
	"detent/vm"
)

const (
	least = math.MinInt
	most  = math.MaxInt
)

// Where code fields stand: 32 and 8 times the number that chapter 10 tells.
const (
	litXt        = 40
	branchXt     = 48
	branchIfNoXt = 56
	doXt         = 64
	doIfAnyXt    = 72
	loopXt       = 80
	loopByXt     = 88
	strXt        = 120
	unloopXt     = 168
)

// newOnce is made once for all tests, as a new machine takes its time.
var newOnce = sync.OnceValues(func() (api.Vm, api.Throw) {
	return vm.New(api.Conf{Mem: 2048, Data: 30, Ret: 24, Words: 300, Out: 200})
})

// fresh is a new machine of 2048 bytes.
func fresh(t *testing.T) api.Vm {
	t.Helper()
	v, code := newOnce()
	if code != api.OK {
		t.Fatal("New:", code)
	}
	return deep(v)
}

// busy is a right machine of 2048 bytes of which each part has something, and whose end is at a place: from 1368 on no byte is 00.
func busy(t *testing.T, here int) api.Vm {
	t.Helper()
	v := fresh(t)
	for at := 1368; at < 2048; at++ {
		v.Mem.B[at] = byte(1 + (at-1368)%250)
	}
	v.Mem.Old = []api.Patch{{At: 1368, Old: []byte{7}}, {At: 1400, Old: []byte{8, 9}}, {At: 5000, Old: nil}}
	v.Here = here
	v.D, v.R, v.F = []int{11, -12, 13}, []int{21, 22}, []api.Frame{{D: 1, R: 2, Ip: 1400}}
	// Few words: no call here asks for one, but for that which has a primitive's name and isn't it.
	v.Dict = append(v.Dict[:3:3], api.Word{Name: "a", Xt: 1368}, api.Word{Name: "(branch)", Xt: 1376}, api.Word{Name: "UNLOOP", Xt: 1384, Flags: 7})
	v.Last = 1376
	v.Out = []byte("25 -7 ")
	v.Pic = api.Pic{B: []byte("321"), On: true}
	v.Req = []api.Req{{Kind: 1, Arg: 5, Hand: 1, Rank: 2, Delay: 3, Id: 4}}
	v.Free, v.Next, v.Arg, v.Self, v.Now = 3, 9, -77, 1, 1000
	v.Hand = []api.Hand{{Xt: 1368, Fuel: 50, Strikes: 1}, {Xt: 1376, Fuel: 60, Strikes: 2, Out: true}}
	if !vm.Right(v) {
		t.Fatal("the machine isn't right")
	}
	return v
}

// copied is a value in memory of its own, each row with the room behind its end; up to is where a row then ends.
func copied(x reflect.Value, upTo func(reflect.Value) int) reflect.Value {
	out := reflect.New(x.Type()).Elem()
	out.Set(x)
	switch {
	case x.Kind() == reflect.Struct:
		for i := range x.NumField() {
			out.Field(i).Set(copied(x.Field(i), upTo))
		}
	case x.Kind() == reflect.Slice && x.Cap() > 0:
		row := reflect.MakeSlice(x.Type(), x.Cap(), x.Cap())
		reflect.Copy(row, x.Slice(0, x.Cap()))
		// Of bytes and numbers that is all.
		if x.Type().Elem().Kind() == reflect.Struct {
			for i := range x.Cap() {
				row.Index(i).Set(copied(row.Index(i), upTo))
			}
		}
		out.Set(row.Slice(0, upTo(x)))
	}
	return out
}

// deep is a value that shares nothing with another one.
func deep[T any](x T) T {
	return copied(reflect.ValueOf(&x).Elem(), reflect.Value.Len).Interface().(T)
}

// whole is a value each of whose rows goes on to the end of its room.
func whole[T any](x T) T {
	return copied(reflect.ValueOf(&x).Elem(), reflect.Value.Cap).Interface().(T)
}

// spare is a row that has room behind its end, with something in it.
func spare[T any](row []T, x T) []T { return append(row[:len(row):len(row)], x, x, x, x)[:len(row)] }

// roomy is a machine whose rows have room behind their ends.
func roomy(v api.Vm) api.Vm {
	v = deep(v)
	v.Mem.B, v.Mem.Old = spare(v.Mem.B, 77), spare(v.Mem.Old, api.Patch{At: 1, Old: []byte{1}})
	v.D, v.R, v.F = spare(v.D, 901), spare(v.R, 911), spare(v.F, api.Frame{D: 9})
	return v
}

// roomyOpen is open brackets with such room.
func roomyOpen(l []api.Cf) []api.Cf {
	l = deep(l)
	for i := range l {
		l[i].Leaves = spare(l[i].Leaves, 921)
	}
	return spare(l, api.Cf{Kind: 9, At: 931})
}

// differs is the first part in which two machines differ, or nothing.
func differs(a, b api.Vm) string {
	samePatch := func(p, q api.Patch) bool { return p.At == q.At && bytes.Equal(p.Old, q.Old) }
	switch {
	case a.Here != b.Here:
		return "Here"
	case !bytes.Equal(a.Mem.B, b.Mem.B):
		return "Mem.B"
	case !slices.EqualFunc(a.Mem.Old, b.Mem.Old, samePatch):
		return "Mem.Old"
	case !vm.Same(a, b):
		return "a part that isn't memory, nor Here"
	}
	return ""
}

// openDiffer: do two rows of open brackets differ?
func openDiffer(a, b []api.Cf) bool {
	return !slices.EqualFunc(a, b, func(x, y api.Cf) bool {
		return x.Kind == y.Kind && x.At == y.At && slices.Equal(x.Leaves, y.Leaves)
	})
}

// written is a machine in which bytes were written at a place.
func written(v api.Vm, at int, b []byte) api.Vm {
	v = deep(v)
	v.Mem.Old = append(v.Mem.Old, api.Patch{At: at, Old: slices.Clone(v.Mem.B[at : at+len(b)])})
	copy(v.Mem.B[at:], b)
	return v
}

// bytesOf is a cell's bytes.
func bytesOf(n int) []byte { return binary.LittleEndian.AppendUint64(nil, uint64(n)) }

// laid is a machine in which cells were laid, one by one.
func laid(v api.Vm, cells ...int) api.Vm {
	for _, n := range cells {
		v = written(v, v.Here, bytesOf(n))
		v.Here += 8
	}
	return v
}

// ledHere is a machine in which Here was stored at places, one by one.
func ledHere(v api.Vm, places ...int) api.Vm {
	for _, at := range places {
		v = written(v, at, bytesOf(v.Here))
	}
	return v
}

// cellAt is the cell at a place.
func cellAt(v api.Vm, at int) int { return int(binary.LittleEndian.Uint64(v.Mem.B[at:])) }

// check holds what a call answers against what it should, and asks that it changes nothing that it was given, and that the machine stays right.
func check(t *testing.T, what string, v api.Vm, call func(api.Vm) (api.Vm, api.Throw), want api.Vm, wantCode api.Throw) {
	t.Helper()
	if !vm.Right(v) {
		t.Fatalf("%s: the machine isn't right ahead of it", what)
	}
	for _, v := range []api.Vm{v, roomy(v)} {
		kept := whole(v)
		got, code := call(v)
		if code != wantCode {
			t.Errorf("%s: code %d, want %d", what, code, wantCode)
		}
		if part := differs(got, want); part != "" {
			t.Errorf("%s: %s isn't what it should be", what, part)
		}
		if !reflect.DeepEqual(whole(v), kept) {
			t.Errorf("%s changes the machine that it was given", what)
		}
		if !vm.Right(got) {
			t.Errorf("%s: the machine isn't right behind it", what)
		}
	}
}
