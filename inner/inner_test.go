package inner

import (
	"bytes"
	"encoding/binary"
	"fmt"
	"math"
	"reflect"
	"slices"
	"strconv"
	"strings"
	"sync"
	"testing"

	"detent/api"
	"detent/vm"
)

const (
	least = math.MinInt
	most  = math.MaxInt
)

// namesByHand are the primitives of the chapter's table, each behind its number.
const namesByHand = `
0 (exit) 1 (lit) 2 (branch) 3 (0branch) 4 (do) 5 (?do) 6 (loop) 7 (+loop) 8 (halt) 9 (caught) 10 (does) 11 (str)
12 EXECUTE 13 CATCH 14 THROW 15 I 16 J 17 UNLOOP 18 >R 19 R> 20 R@ 21 2>R 22 2R>
`

// numbersByHand are all primitives' numbers, by their names: those of the table by hand, the others as chapter 10 tells them.
var numbersByHand = sync.OnceValue(func() map[string]int {
	all := map[string]int{}
	for n, name := range vm.Names() {
		if n > 22 {
			all[name] = n
		}
	}
	for pair := range slices.Chunk(strings.Fields(namesByHand), 2) {
		n, err := strconv.Atoi(pair[0])
		if err != nil {
			panic(err)
		}
		all[pair[1]] = n
	}
	return all
})

// place is where a primitive's code field stands.
func place(t *testing.T, name string) int {
	t.Helper()
	n, known := numbersByHand()[name]
	if !known {
		t.Fatalf("no word %s", name)
	}
	return 32 + 8*n
}

// newOnce is made once for all tests, as a new machine takes its time.
var newOnce = sync.OnceValues(func() (api.Vm, api.Throw) {
	return vm.New(api.Conf{Mem: 2048, Data: 30, Ret: 24, Words: 300, Out: 200})
})

// plain is a new machine of 2048 bytes.
func plain(t *testing.T) api.Vm {
	t.Helper()
	v, code := newOnce()
	if code != api.OK {
		t.Fatal("New:", code)
	}
	return deep(v)
}

// busy is a right machine of 2048 bytes of which each part has something, but that it has no frames: the bytes from 1368 on up to 2048 are 1, 2, .. 250, 1, 2 and so on.
func busy(t *testing.T) api.Vm {
	t.Helper()
	v := plain(t)
	for at := 1368; at < 2048; at++ {
		v.Mem.B[at] = byte(1 + (at-1368)%250)
	}
	v.Mem.Old = []api.Patch{{At: 1368, Old: []byte{7}}, {At: 1400, Old: []byte{8, 9}}, {At: 5000, Old: nil}}
	v.Here = 1440
	v.D, v.R = []int{11, -12, 13}, []int{21, 22, -23, 24}
	// Few words, as a run asks for none, and many take their time.
	v.Dict = append(v.Dict[:3:3], api.Word{Name: "a", Xt: 1368}, api.Word{Name: "b", Xt: 1376, Flags: 7})
	v.Last = 1376
	v.Out = []byte("25 -7 ")
	v.Pic = api.Pic{B: []byte("321"), On: true}
	v.Req = []api.Req{{Kind: 1, Arg: 5, Hand: 1, Rank: 2, Delay: 3, Id: 4}, {Kind: 4, Arg: 1, Hand: 1, Rank: 1, Delay: 1, Id: 7}}
	v.Free, v.Next, v.Arg, v.Self, v.Now = 3, 9, -77, 1, 1000
	v.Hand = []api.Hand{{Xt: 1368, Fuel: 50, Strikes: 1}, {Xt: 1376, Fuel: 60, Strikes: 2, Out: true}, {Xt: 1384, Fuel: 70, Strikes: 3}}
	return v
}

// framed is a machine with two frames.
func framed(v api.Vm) api.Vm {
	v = deep(v)
	v.F = []api.Frame{{D: 1, R: 2, Ip: 1400}, {D: 2, R: 1, Ip: -5}}
	return v
}

// deep is what a machine is, in memory of its own, with the room behind its rows.
func deep(v api.Vm) api.Vm {
	v.Mem.B = row(v.Mem.B)
	v.Mem.Old = row(v.Mem.Old)
	patches := v.Mem.Old[:cap(v.Mem.Old)]
	for i := range patches {
		patches[i].Old = row(patches[i].Old)
	}
	v.D, v.R, v.F, v.Dict = row(v.D), row(v.R), row(v.F), row(v.Dict)
	v.Out, v.Pic.B = row(v.Out), row(v.Pic.B)
	v.Req, v.Hand = row(v.Req), row(v.Hand)
	return v
}

// row is a row in memory of its own, with the room behind its end.
func row[T any](s []T) []T {
	out := make([]T, cap(s))
	copy(out, s[:cap(s)])
	return out[:len(s)]
}

// deepRun is a run in memory of its own.
func deepRun(r api.Run) api.Run {
	r.Vm = deep(r.Vm)
	return r
}

// roomy is a run each of whose machine's rows has room behind its end, with something in it.
func roomy(r api.Run) api.Run {
	v := deep(r.Vm)
	v.Mem.B = slices.Grow(v.Mem.B, 8)
	v.Mem.Old = append(v.Mem.Old, api.Patch{At: 1, Old: []byte{1}}, api.Patch{At: 2, Old: []byte{2}})[:len(v.Mem.Old)]
	v.D = append(v.D, 901, 902, 903, 904, 905, 906)[:len(v.D)]
	v.R = append(v.R, 911, 912, 913, 914)[:len(v.R)]
	v.F = append(v.F, api.Frame{D: 9}, api.Frame{R: 9})[:len(v.F)]
	v.Dict = append(v.Dict, api.Word{Name: "z"})[:len(v.Dict)]
	v.Out = append(v.Out, strings.Repeat("z", 300)...)[:len(v.Out)]
	v.Pic.B = append(v.Pic.B, strings.Repeat("z", 150)...)[:len(v.Pic.B)]
	v.Req = append(v.Req, api.Req{Kind: 9}, api.Req{Kind: 9})[:len(v.Req)]
	v.Hand = append(v.Hand, api.Hand{Xt: 9})[:len(v.Hand)]
	r.Vm = v
	return r
}

// whole is what a run is, each row of its machine up to the end of its room.
func whole(r api.Run) api.Run {
	v := deep(r.Vm)
	v.Mem.B, v.Mem.Old = v.Mem.B[:cap(v.Mem.B)], v.Mem.Old[:cap(v.Mem.Old)]
	for i := range v.Mem.Old {
		v.Mem.Old[i].Old = v.Mem.Old[i].Old[:cap(v.Mem.Old[i].Old)]
	}
	v.D, v.R, v.F, v.Dict = v.D[:cap(v.D)], v.R[:cap(v.R)], v.F[:cap(v.F)], v.Dict[:cap(v.Dict)]
	v.Out, v.Pic.B = v.Out[:cap(v.Out)], v.Pic.B[:cap(v.Pic.B)]
	v.Req, v.Hand = v.Req[:cap(v.Req)], v.Hand[:cap(v.Hand)]
	r.Vm = v
	return r
}

// differs is the first part in which two runs differ, or nothing.
func differs(a, b api.Run) string {
	if a.Ip != b.Ip {
		return fmt.Sprint("Ip ", a.Ip, ", ", b.Ip)
	}
	if a.W != b.W || a.Do != b.Do {
		return fmt.Sprint("W ", a.W, ", ", b.W, ", Do ", a.Do, ", ", b.Do)
	}
	if a.Fuel != b.Fuel {
		return fmt.Sprint("Fuel ", a.Fuel, ", ", b.Fuel)
	}
	return machinesDiffer(a.Vm, b.Vm)
}

// machinesDiffer is the first part in which two machines differ, or nothing.
func machinesDiffer(a, b api.Vm) string {
	samePatch := func(p, q api.Patch) bool { return p.At == q.At && bytes.Equal(p.Old, q.Old) }
	for _, part := range []struct {
		name string
		same bool
	}{
		{"Conf", a.Conf == b.Conf}, {"Mem.B", bytes.Equal(a.Mem.B, b.Mem.B)}, {"Mem.Old", slices.EqualFunc(a.Mem.Old, b.Mem.Old, samePatch)},
		{"Here", a.Here == b.Here}, {"Dict", slices.Equal(a.Dict, b.Dict)}, {"Last", a.Last == b.Last}, {"Out", bytes.Equal(a.Out, b.Out)},
		{"Pic.B", bytes.Equal(a.Pic.B, b.Pic.B)}, {"Pic.On", a.Pic.On == b.Pic.On}, {"Req", slices.Equal(a.Req, b.Req)},
		{"Free", a.Free == b.Free}, {"Next", a.Next == b.Next}, {"Arg", a.Arg == b.Arg}, {"Self", a.Self == b.Self}, {"Now", a.Now == b.Now},
		{"Hand", slices.Equal(a.Hand, b.Hand)},
	} {
		if !part.same {
			return part.name
		}
	}
	switch {
	case !slices.Equal(a.D, b.D):
		return fmt.Sprint("D ", a.D, ", ", b.D)
	case !slices.Equal(a.R, b.R):
		return fmt.Sprint("R ", a.R, ", ", b.R)
	case !slices.Equal(a.F, b.F):
		return fmt.Sprint("F ", a.F, ", ", b.F)
	}
	return ""
}

// cells lay cells into memory, as if they had always stood there.
func cells(v *api.Vm, pairs ...int) {
	for pair := range slices.Chunk(pairs, 2) {
		binary.LittleEndian.PutUint64(v.Mem.B[pair[0]:], uint64(pair[1]))
	}
}

// stored tells a write of a cell at a place.
func stored(v *api.Vm, at, n int) {
	v.Mem.Old = append(v.Mem.Old, api.Patch{At: at, Old: slices.Clone(v.Mem.B[at : at+8])})
	cells(v, at, n)
}

// P12.1, Same

func expectSame(t *testing.T, what string, a, b api.Run, want bool) {
	t.Helper()
	if Same(a, b) != want || Same(b, a) != want {
		t.Errorf("Same, %s: %v, %v, want %v", what, Same(a, b), Same(b, a), want)
	}
}

// turnEach turns all that is in a value, one thing after the other; each is as it was when the next one is turned.
func turnEach(what string, x reflect.Value, tell func(what string)) {
	was := reflect.New(x.Type()).Elem()
	was.Set(x)
	set := func(how string, to reflect.Value) {
		x.Set(to)
		tell(what + how)
		x.Set(was)
	}
	switch x.Kind() {
	case reflect.Struct:
		for i := range x.NumField() {
			turnEach(what+"."+x.Type().Field(i).Name, x.Field(i), tell)
		}
	case reflect.Slice:
		for i := range x.Len() {
			turnEach(fmt.Sprint(what, " at ", i), x.Index(i), tell)
		}
		n := x.Len()
		set(" without its last one", was.Slice(0, n-1))
		set(" without any", reflect.Zero(x.Type()))
		set(" with one more", reflect.Append(was.Slice3(0, n, n), reflect.Zero(x.Type().Elem())))
	case reflect.Int:
		set(" and 1", reflect.ValueOf(int(was.Int())+1))
		set(" and 2^32", reflect.ValueOf(int(was.Int())+1<<32))
		set(", its sign turned", reflect.ValueOf(int(was.Int())^least))
	case reflect.Uint8:
		set(", a bit turned", reflect.ValueOf(byte(was.Uint())^1))
	case reflect.Bool:
		set(", turned", reflect.ValueOf(!was.Bool()))
	case reflect.String:
		set(", a sign more", reflect.ValueOf(was.String()+"x"))
	default:
		panic(x.Kind())
	}
}

func TestSameLooksAtEachPart(t *testing.T) {
	v := framed(busy(t))
	for i := range v.Mem.Old {
		v.Mem.Old[i].Old = append(v.Mem.Old[i].Old, 1)
	}
	for _, r := range []api.Run{{Vm: v, Ip: 1400, W: 216, Do: true, Fuel: 9}, {Vm: v, Ip: -1, W: least, Fuel: most}} {
		other := deepRun(r)
		seen := map[string]bool{}
		expectSame(t, "of what is alike", r, other, true)
		turnEach("run", reflect.ValueOf(&other).Elem(), func(what string) {
			seen[what] = true
			if Same(r, other) || Same(other, r) {
				t.Errorf("Same, %s: yes", what)
			}
			if !Same(other, deepRun(other)) {
				t.Errorf("%s isn't the same as itself", what)
			}
		})
		expectSame(t, "of what is alike again", r, other, true)
		// So that the test can't go on without what it is to look at.
		for _, what := range []string{
			"run.Ip and 1", "run.W and 2^32", "run.Do, turned", "run.Fuel, its sign turned", "run.Vm.Conf.Ret and 1", "run.Vm.Mem.B at 2047, a bit turned", "run.Vm.Mem.Old at 1.At and 1", "run.Vm.Here and 1",
			"run.Vm.D without any", "run.Vm.R at 3 and 1", "run.Vm.F at 1.Ip and 1", "run.Vm.Dict at 4.Name, a sign more", "run.Vm.Last and 1", "run.Vm.Out with one more", "run.Vm.Pic.On, turned",
			"run.Vm.Req at 1.Id and 1", "run.Vm.Free and 1", "run.Vm.Next and 1", "run.Vm.Arg and 1", "run.Vm.Self and 1", "run.Vm.Now and 1", "run.Vm.Hand at 2.Strikes and 1",
		} {
			if !seen[what] {
				t.Errorf("%q wasn't looked at", what)
			}
		}
	}
}

func TestSameOfItself(t *testing.T) {
	wrong := api.Vm{D: make([]int, 999), F: []api.Frame{{D: -1}}, Mem: api.Mem{B: make([]byte, 3)}}
	for i, r := range []api.Run{{}, {Vm: plain(t)}, {Vm: busy(t), Ip: -9, W: least, Do: true, Fuel: -3}, {Vm: framed(busy(t)), Ip: most, Fuel: most}, {Vm: wrong, Ip: 5, Do: true}} {
		expectSame(t, fmt.Sprint(i, " and itself"), r, r, true)
		expectSame(t, fmt.Sprint(i, " and what is alike"), r, deepRun(r), true)
		expectSame(t, fmt.Sprint(i, " and one with other room"), r, roomy(r), true)
	}
}

// One number of a run isn't taken for another one.
func TestSameTellsARunsNumbersApart(t *testing.T) {
	v := plain(t)
	r := api.Run{Vm: v, Ip: 1, W: 2, Fuel: 3}
	for _, other := range []api.Run{{Vm: v, Ip: 2, W: 1, Fuel: 3}, {Vm: v, Ip: 3, W: 2, Fuel: 1}, {Vm: v, Ip: 1, W: 3, Fuel: 2}, {Vm: v, Ip: 1, W: 2, Fuel: 3, Do: true}} {
		expectSame(t, fmt.Sprint(other.Ip, other.W, other.Fuel, other.Do), r, other, false)
	}
	expectSame(t, "no W, but Do", api.Run{Vm: v, Do: true}, api.Run{Vm: v}, false)
	expectSame(t, "nothing, and nil rows", api.Run{}, api.Run{Vm: api.Vm{D: []int{}, R: []int{}, F: []api.Frame{}, Mem: api.Mem{B: []byte{}}}}, true)
}

// P12.1, Begin

func TestBegin(t *testing.T) {
	for _, v := range []api.Vm{plain(t), busy(t), framed(busy(t)), {}} {
		for _, xt := range []int{0, 1, 16, 96, 216, 1368, 2040, 2048, -1, -8, least, most} {
			for _, fuel := range []int{0, 1, 10, -1, -5, least, most} {
				r := roomy(api.Run{Vm: v})
				kept := whole(r)
				got := Begin(r.Vm, xt, fuel)
				want := api.Run{Vm: deep(v), Ip: 16, W: xt, Do: true, Fuel: fuel}
				want.Vm.R, want.Vm.F = nil, nil
				if part := differs(got, want); part != "" {
					t.Errorf("Begin of %d, %d: %s", xt, fuel, part)
				}
				if part := differs(whole(r), kept); part != "" {
					t.Error("Begin changes what it was given:", part)
				}
			}
		}
	}
}
