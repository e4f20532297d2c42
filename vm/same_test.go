package vm

import (
	"fmt"
	"reflect"
	"testing"

	"detent/api"
)

// P10.1, Same

func expectSame(t *testing.T, what string, a, b api.Vm, want bool) {
	t.Helper()
	if Same(a, b) != want || Same(b, a) != want {
		t.Errorf("Same, %s: %v, %v, want %v", what, Same(a, b), Same(b, a), want)
	}
}

// turned goes through all machines that differ from one in one thing alone: a number, a sign, a yes or no, or how a row's elements stand.
func turned(v api.Vm, tell func(what string, other api.Vm)) {
	whole := reflect.ValueOf(&v).Elem()
	turnEach("machine", whole, func(what string) { tell(what, deep(v)) })
}

// turnEach turns all that is in a value, one thing after the other; each is as it was when the next one is turned.
func turnEach(what string, x reflect.Value, tell func(what string)) {
	was := reflect.New(x.Type()).Elem()
	was.Set(x)
	set := func(how string, to reflect.Value) {
		x.Set(to)
		tell(what + how)
		x.Set(was)
	}
	switch x.Kind() {
	case reflect.Struct:
		for i := range x.NumField() {
			turnEach(what+"."+x.Type().Field(i).Name, x.Field(i), tell)
		}
	case reflect.Slice:
		for i := range x.Len() {
			turnEach(fmt.Sprint(what, " at ", i), x.Index(i), tell)
		}
		for how, other := range otherRows(was) {
			set(how, other)
		}
	case reflect.Int:
		set(" and 1", reflect.ValueOf(int(was.Int())+1))
		set(" and 2^32", reflect.ValueOf(int(was.Int())+1<<32))
		set(", its sign turned", reflect.ValueOf(int(was.Int())^least))
	case reflect.Uint8:
		set(", a bit turned", reflect.ValueOf(byte(was.Uint())^1))
		set(", another bit turned", reflect.ValueOf(byte(was.Uint())^128))
	case reflect.Bool:
		set(", turned", reflect.ValueOf(!was.Bool()))
	case reflect.String:
		set(", a sign more", reflect.ValueOf(was.String()+"x"))
		set(", no sign", reflect.ValueOf(""))
	default:
		panic(x.Kind())
	}
}

// otherRows are rows that differ from one, which has elements, in their length, or in their order.
func otherRows(row reflect.Value) map[string]reflect.Value {
	n := row.Len()
	own := func() reflect.Value {
		out := reflect.MakeSlice(row.Type(), n, n)
		reflect.Copy(out, row)
		return out
	}
	swapped := func(i, k int) reflect.Value {
		out := own()
		out.Index(i).Set(row.Index(k))
		out.Index(k).Set(row.Index(i))
		return out
	}
	zero := reflect.Zero(row.Type().Elem())
	all := map[string]reflect.Value{
		" without its last one":  own().Slice(0, n-1),
		" without its first one": own().Slice(1, n),
		" without any":           reflect.Zero(row.Type()),
		" with an empty one":     reflect.Append(own(), zero),
		" with one once more":    reflect.Append(own(), row.Index(n-1)),
	}
	for what, pair := range map[string][2]int{" with its ends turned": {0, n - 1}, " with its last ones turned": {n - 2, n - 1}} {
		if n > 1 && !reflect.DeepEqual(row.Index(pair[0]).Interface(), row.Index(pair[1]).Interface()) {
			all[what] = swapped(pair[0], pair[1])
		}
	}
	return all
}

func TestSameOfItself(t *testing.T) {
	for i, v := range append(rightMachines(t), api.Vm{}) {
		expectSame(t, fmt.Sprint(i, " and itself"), v, v, true)
		expectSame(t, fmt.Sprint(i, " and what is alike"), v, deep(v), true)
	}
}

func TestSameLooksAtEachPart(t *testing.T) {
	v := busy(t)
	many, seen := 0, map[string]bool{}
	turned(deep(v), func(what string, other api.Vm) {
		many++
		seen[what] = true
		if Same(v, other) || Same(other, v) {
			t.Errorf("Same, %s: yes", what)
		}
		if !Same(other, deep(other)) {
			t.Errorf("%s isn't the same as itself", what)
		}
	})
	// So that the test can't go on without what it is to look at.
	for _, what := range []string{
		"machine.Conf.Mem and 1", "machine.Conf.Out and 1", "machine.Mem.B at 2047, a bit turned", "machine.Mem.Old at 2.Old at 0, a bit turned", "machine.Mem.Old at 1.At and 1",
		"machine.F at 1.Ip and 1", "machine.Dict at 168.Name, no sign", "machine.Dict at 0.Flags and 1", "machine.Out at 3, a bit turned", "machine.Pic.On, turned", "machine.Pic.B at 3, a bit turned",
		"machine.Req at 2.Id and 1", "machine.Now and 1", "machine.Hand at 1.Out, turned", "machine.Hand without its last one", "machine.Hand with its ends turned", "machine.D with an empty one",
	} {
		if !seen[what] {
			t.Errorf("%q wasn't looked at", what)
		}
	}
	if many < 2*2048 {
		t.Error(many)
	}
}

func TestSameLooksAtEachPartOfANewMachine(t *testing.T) {
	for _, c := range []api.Conf{leastConf(), conf(2048, 64, 64, 300, 100)} {
		v := made(t, c)
		r := reflect.ValueOf(v)
		for i := range r.NumField() {
			if name := r.Type().Field(i).Name; r.Field(i).Kind() == reflect.Slice && r.Field(i).Len() == 0 {
				o := deep(v)
				f := reflect.ValueOf(&o).Elem().Field(i)
				f.Set(reflect.MakeSlice(f.Type(), 1, 1))
				expectSame(t, name+" with an empty one", v, o, false)
				f.Set(reflect.MakeSlice(f.Type(), 0, 5))
				expectSame(t, name+" without any, but not nil", v, o, true)
			}
		}
		for what, turn := range map[string]func(v *api.Vm){
			"a patch": func(v *api.Vm) { v.Mem.Old = make([]api.Patch, 1) },
			"a sign":  func(v *api.Vm) { v.Pic.B = make([]byte, 1) },
			"begun":   func(v *api.Vm) { v.Pic.On = true },
		} {
			o := deep(v)
			turn(&o)
			expectSame(t, what, v, o, false)
		}
	}
}

func TestSameOfListsWithoutElements(t *testing.T) {
	a := api.Vm{Mem: api.Mem{Old: []api.Patch{{At: 1}}}}
	b := api.Vm{
		Mem: api.Mem{B: []byte{}, Old: []api.Patch{{At: 1, Old: []byte{}}}},
		D:   []int{}, R: []int{}, F: []api.Frame{}, Dict: []api.Word{}, Out: []byte{}, Pic: api.Pic{B: []byte{}}, Req: []api.Req{}, Hand: []api.Hand{},
	}
	expectSame(t, "nil, and empty", a, b, true)
	expectSame(t, "empty, and empty with room", b, whole(b), true)
	a.Mem.Old, b.Mem.Old = nil, []api.Patch{}
	expectSame(t, "no patches", a, b, true)
	expectSame(t, "nothing", api.Vm{}, b, true)
}

func TestSameLooksNotBehindARowsEnd(t *testing.T) {
	v := busy(t)
	expectSame(t, "with other room", v, roomy(v), true)
	expectSame(t, "with other things behind", roomy(v), whole(roomy(v)), false)
}

// What is in one row isn't taken for what is in another one.
func TestSameTellsRowsOfOneKindApart(t *testing.T) {
	v := busy(t)
	for what, turn := range map[string]func(v *api.Vm){
		"both stacks":          func(v *api.Vm) { v.D, v.R = v.R, v.D },
		"Data and Ret":         func(v *api.Vm) { v.Conf.Data, v.Conf.Ret = v.Conf.Ret, v.Conf.Data },
		"put out, and a text":  func(v *api.Vm) { v.Out, v.Pic.B = v.Pic.B, v.Out },
		"Here and Last":        func(v *api.Vm) { v.Here, v.Last = v.Last, v.Here },
		"Free and Next":        func(v *api.Vm) { v.Free, v.Next = v.Next, v.Free },
		"Arg and Self":         func(v *api.Vm) { v.Arg, v.Self = v.Self, v.Arg },
		"Self and Now":         func(v *api.Vm) { v.Self, v.Now = v.Now, v.Self },
		"a frame's D and R":    func(v *api.Vm) { v.F[0].D, v.F[0].R = v.F[0].R, v.F[0].D },
		"a handler's numbers":  func(v *api.Vm) { v.Hand[0].Fuel, v.Hand[0].Strikes = v.Hand[0].Strikes, v.Hand[0].Fuel },
		"a cell and a cell":    func(v *api.Vm) { v.D = append(v.D, v.R[0]); v.R = v.R[1:] },
		"a request's numbers":  func(v *api.Vm) { v.Req[0].Hand, v.Req[0].Rank = v.Req[0].Rank, v.Req[0].Hand },
		"what stood elsewhere": func(v *api.Vm) { v.Mem.Old[0].At, v.Mem.Old[1].At = v.Mem.Old[1].At, v.Mem.Old[0].At },
	} {
		o := deep(v)
		turn(&o)
		expectSame(t, what, v, o, false)
	}
}

func TestSameOfMachinesThatArentRight(t *testing.T) {
	for what, turn := range map[string]func(v *api.Vm){
		"Conf":    func(v *api.Vm) { v.Conf = conf(least, -1, most, 0, 7) },
		"memory":  func(v *api.Vm) { v.Mem = api.Mem{B: make([]byte, 3), Old: []api.Patch{{At: least, Old: []byte{1}}}} },
		"stacks":  func(v *api.Vm) { v.D, v.R = make([]int, 1000), make([]int, 1000) },
		"frames":  func(v *api.Vm) { v.F = make([]api.Frame, 100); v.F[50].D = -1 },
		"words":   func(v *api.Vm) { v.Dict = make([]api.Word, 2000) },
		"Out":     func(v *api.Vm) { v.Out = make([]byte, 70000) },
		"text":    func(v *api.Vm) { v.Pic = api.Pic{B: make([]byte, 200)} },
		"Req":     func(v *api.Vm) { v.Req = make([]api.Req, 20) },
		"numbers": func(v *api.Vm) { v.Here, v.Free, v.Next, v.Last = least, most, least, most },
		"Hand":    func(v *api.Vm) { v.Hand = make([]api.Hand, 100); v.Hand[99].Fuel = least },
	} {
		v := busy(t)
		o := deep(v)
		turn(&o)
		expectSame(t, what+", and what is right", v, o, false)
		expectSame(t, what, o, deep(o), true)
		if Right(o) {
			t.Error(what, "is right")
		}
	}
}

// roomy is a machine whose rows have room behind their ends, with something in it.
func roomy(v api.Vm) api.Vm {
	out := deep(v)
	addRoom(reflect.ValueOf(&out).Elem())
	return out
}

func addRoom(x reflect.Value) {
	switch x.Kind() {
	case reflect.Struct:
		for i := range x.NumField() {
			addRoom(x.Field(i))
		}
	case reflect.Slice:
		n := x.Len()
		for i := range n {
			addRoom(x.Index(i))
		}
		row := reflect.MakeSlice(x.Type(), n+40, n+40)
		reflect.Copy(row, x)
		for i := n; i < row.Len(); i++ {
			mark(row.Index(i))
		}
		x.Set(row.Slice(0, n))
	}
}

// mark lays something into a value that is nothing.
func mark(x reflect.Value) {
	switch x.Kind() {
	case reflect.Struct:
		for i := range x.NumField() {
			mark(x.Field(i))
		}
	case reflect.Int:
		x.SetInt(-99)
	case reflect.Uint8:
		x.SetUint('!')
	case reflect.String:
		x.SetString("mark")
	case reflect.Bool:
		x.SetBool(true)
	}
}
