package vm

import (
	"encoding/binary"
	"fmt"
	"math/rand"
	"slices"
	"strings"
	"testing"

	"detent/api"
)

// P10.3

func expectKind(t *testing.T, v api.Vm, xt, want int, wantCode api.Throw) {
	t.Helper()
	kept := deep(v)
	if n, code := Kind(v, xt); n != want || code != wantCode {
		t.Errorf("Kind of %d bytes at %d: %d, %d, want %d, %d", len(v.Mem.B), xt, n, code, want, wantCode)
	}
	if !alike(v, kept) {
		t.Errorf("Kind at %d changes the machine", xt)
	}
}

func TestKindOfEachCodeFieldOfANewMachine(t *testing.T) {
	for _, c := range goodConfs() {
		v := made(t, c)
		for i, w := range allByHand() {
			expectKind(t, v, 32+8*i, w.n, api.OK)
		}
	}
}

// What stands ahead of the code fields are cells, too: by their numbers they are, or aren't, such of code fields.
func TestKindOfTheFirstCells(t *testing.T) {
	v := made(t, middleConf())
	expectKind(t, v, 0, 10, api.OK)
	expectKind(t, v, 8, 0, api.OK)
	expectKind(t, v, 16, 96, api.OK)
	expectKind(t, v, 24, 104, api.OK)
	expectKind(t, v, 1368, 0, api.OK)
}

func TestKindWhereNoCellStands(t *testing.T) {
	for _, c := range []api.Conf{leastConf(), middleConf(), greatestConf()} {
		v := made(t, c)
		n := c.Mem
		for at := 0; at <= 1376; at++ {
			if at%8 != 0 {
				expectKind(t, v, at, 0, api.Align)
			}
		}
		for at := n - 15; at < n-8; at++ {
			expectKind(t, v, at, 0, api.Align)
		}
		expectKind(t, v, n-16, 0, api.OK)
		expectKind(t, v, n-8, 0, api.OK)
		// Address comes ahead of Align: these are no multiples of 8, and there isn't a cell either.
		for at := n - 7; at < n; at++ {
			expectKind(t, v, at, 0, api.Address)
		}
		for _, at := range []int{n, n + 1, n + 8, 2 * n, 65536, 65544, 1 << 32, 1<<32 + 216, -1, -4, -7, -8, -9, -16, -216, -n, least, least + 1, least + 8, most - 8, most - 7, most} {
			if at >= n || at < 0 {
				expectKind(t, v, at, 0, api.Address)
			}
		}
	}
}

// isKindByHand: is a number that of a code field, by the chapter's words?
func isKindByHand(n int) bool {
	return slices.ContainsFunc(allByHand(), func(w numbered) bool { return w.n == n }) || slices.Contains([]int{256, 257, 258, 259, 260}, n)
}

func TestKindOfEachNumber(t *testing.T) {
	numbers := []int{
		least, least + 1, least + 256, -1 << 32, -256, -300, 1 << 32, 1<<32 + 5, 1<<32 + 256, 1<<32 + 300, 1 << 62, most - 1, most,
		512, 556, 565, 600, 65536, 65536 + 23, 1<<24 + 300,
	}
	for n := -20; n <= 420; n++ {
		numbers = append(numbers, n)
	}
	v := made(t, leastConf())
	for _, at := range []int{0, 8, 216, 1360, 1368, 2032, 2040} {
		for _, n := range numbers {
			o := deep(v)
			binary.LittleEndian.PutUint64(o.Mem.B[at:], uint64(n))
			if isKindByHand(n) {
				expectKind(t, o, at, n, api.OK)
			} else {
				expectKind(t, o, at, 0, api.Address)
			}
		}
	}
}

func TestKindOfNumbersByExample(t *testing.T) {
	v := made(t, leastConf())
	for n, want := range map[int]bool{
		0: true, 129: true, 130: false, 131: false, 255: false, 256: true, 257: true, 258: true, 259: true, 260: true, 261: false,
		299: false, 300: true, 336: true, 337: false, -1: false, least: false, most: false,
	} {
		o := deep(v)
		binary.LittleEndian.PutUint64(o.Mem.B[1400:], uint64(n))
		kind, code := Kind(o, 1400)
		if want && (kind != n || code != 0) || !want && (kind != 0 || code != -9) {
			t.Errorf("of %d: %d, %d", n, kind, code)
		}
	}
}

// P10.4, stacks

// aStack is one of a machine's stacks: what its calls are, and where it lies.
type aStack struct {
	name        string
	push        func(api.Vm, int) (api.Vm, api.Throw)
	pop         func(api.Vm) (int, api.Vm, api.Throw)
	row         func(*api.Vm) *[]int
	room        func(*api.Vm) *int
	over, under api.Throw
}

func stacks() []aStack {
	return []aStack{
		{"D", Push, Pop, func(v *api.Vm) *[]int { return &v.D }, func(v *api.Vm) *int { return &v.Conf.Data }, -3, -4},
		{"R", RPush, RPop, func(v *api.Vm) *[]int { return &v.R }, func(v *api.Vm) *int { return &v.Conf.Ret }, -5, -6},
	}
}

// cells are numbers that are pushed.
func cells() []int { return []int{0, 1, -1, 8, 300, 1 << 32, least, most} }

// with is a machine with so many cells on that stack, and room for so many.
func (s aStack) with(v api.Vm, many, room int) api.Vm {
	out := deep(v)
	row := make([]int, many)
	for i := range row {
		row[i] = 1000 + i
	}
	*s.row(&out) = row
	*s.room(&out) = room
	return out
}

// of is a machine with just these cells on that stack.
func (s aStack) of(v api.Vm, row []int) api.Vm {
	out := deep(v)
	*s.row(&out) = row
	return out
}

func TestPushByHowManyThereAre(t *testing.T) {
	for _, s := range stacks() {
		for _, v := range []api.Vm{busy(t), made(t, leastConf()), made(t, greatestConf())} {
			for _, room := range []int{1, 2, 3, 10, 255, 256} {
				for _, many := range []int{0, 1, 2, 9, 10, 254, 255, 256} {
					if many <= room {
						expectPush(t, s, s.with(v, many, room), many < room)
					}
				}
			}
		}
	}
}

func expectPush(t *testing.T, s aStack, v api.Vm, hasRoom bool) {
	t.Helper()
	for _, n := range cells() {
		kept := whole(v)
		want, wantCode := v, s.over
		if hasRoom {
			want, wantCode = s.of(v, append(slices.Clone(*s.row(&v)), n)), api.OK
		}
		got, code := s.push(v, n)
		expect(t, fmt.Sprint("push of ", n, " on ", s.name, " of ", len(*s.row(&v)), " with room for ", *s.room(&v)), got, code, want, wantCode)
		if !alike(whole(v), kept) {
			t.Error("push on", s.name, "changes the machine")
		}
	}
}

func TestPopByHowManyThereAre(t *testing.T) {
	for _, s := range stacks() {
		for _, v := range []api.Vm{busy(t), made(t, leastConf()), made(t, greatestConf())} {
			for _, many := range []int{0, 1, 2, 3, 100, 255, 256} {
				expectPop(t, s, s.with(v, many, 256))
			}
		}
	}
}

func expectPop(t *testing.T, s aStack, v api.Vm) {
	t.Helper()
	kept := whole(v)
	row := *s.row(&v)
	want, wantTop, wantCode := v, 0, s.under
	if top := len(row) - 1; top >= 0 {
		want, wantTop, wantCode = s.of(v, row[:top]), row[top], api.OK
	}
	n, got, code := s.pop(v)
	what := fmt.Sprint("pop from ", s.name, " of ", len(row))
	expect(t, what, got, code, want, wantCode)
	if n != wantTop {
		t.Errorf("%s: %d, want %d", what, n, wantTop)
	}
	if !alike(whole(v), kept) {
		t.Error(what, "changes the machine")
	}
}

func TestStacksCodesByExample(t *testing.T) {
	v := made(t, leastConf())
	if n, got, code := Pop(v); n != 0 || code != api.Under || !alike(got, v) {
		t.Error("Pop:", n, code)
	}
	if n, got, code := RPop(v); n != 0 || code != api.RUnder || !alike(got, v) {
		t.Error("RPop:", n, code)
	}
	v, code := Push(v, 7)
	if code != api.OK || !slices.Equal(v.D, []int{7}) || len(v.R) != 0 {
		t.Error("Push:", v.D, v.R, code)
	}
	v, code = RPush(v, 8)
	if code != api.OK || !slices.Equal(v.D, []int{7}) || !slices.Equal(v.R, []int{8}) {
		t.Error("RPush:", v.D, v.R, code)
	}
	if got, code := Push(v, 9); code != api.Over || !alike(got, v) {
		t.Error("Push on a full one:", code)
	}
	if got, code := RPush(v, 9); code != api.ROver || !alike(got, v) {
		t.Error("RPush on a full one:", code)
	}
}

// Each stack has its own room: what the other one has is not asked.
func TestStacksHaveTheirOwnRoom(t *testing.T) {
	v := made(t, conf(2048, 2, 5, 200, 0))
	v.D, v.R = []int{1, 2}, []int{1, 2}
	if _, code := Push(v, 3); code != api.Over {
		t.Error("Push:", code)
	}
	o, code := RPush(v, 3)
	if code != api.OK || !slices.Equal(o.R, []int{1, 2, 3}) {
		t.Error("RPush:", o.R, code)
	}
	v = made(t, conf(2048, 5, 2, 200, 0))
	v.D, v.R = []int{1, 2}, []int{1, 2}
	if _, code := RPush(v, 3); code != api.ROver {
		t.Error("RPush:", code)
	}
	o, code = Push(v, 3)
	if code != api.OK || !slices.Equal(o.D, []int{1, 2, 3}) {
		t.Error("Push:", o.D, code)
	}
}

// P10.4, Print

func expectPrint(t *testing.T, v api.Vm, s string, hasRoom bool) {
	t.Helper()
	kept := whole(v)
	want, wantCode := deep(v), api.Throw(-260)
	if hasRoom {
		want.Out = []byte(string(v.Out) + s)
		wantCode = api.OK
	}
	got, code := Print(v, s)
	what := fmt.Sprint("Print of ", len(s), " bytes behind ", len(v.Out), " with room for ", v.Conf.Out)
	expect(t, what, got, code, want, wantCode)
	if !alike(whole(v), kept) {
		t.Error(what, "changes the machine")
	}
}

func TestPrintByHowMuchRoomThereIs(t *testing.T) {
	for _, room := range []int{0, 1, 2, 7, 50, 65535, 65536} {
		for _, there := range []int{0, 1, 2, 6, 7, 49, 50, 65535, 65536} {
			if there > room {
				continue
			}
			v := made(t, conf(2048, 4, 4, 200, room))
			v.Out = []byte(strings.Repeat("o", there))
			left := room - there
			for _, n := range []int{0, 1, 2, left - 1, left, left + 1, room, room + 1, 65536, 65537, 100000} {
				if n >= 0 {
					expectPrint(t, v, strings.Repeat("s", n), n <= left)
				}
			}
		}
	}
}

func TestPrintOfTextsByExample(t *testing.T) {
	v := busy(t)
	for _, s := range []string{"", " ", "x", "25 ", "\n", "\x00", "\xff\xfe", "日本", "a\x00b", "é"} {
		expectPrint(t, v, s, true)
		expectPrint(t, made(t, leastConf()), s, s == "")
	}
	v, code := Print(v, "3\n\xff")
	if code != api.OK || string(v.Out) != "25 -7 3\n\xff" {
		t.Errorf("%q, %d", v.Out, code)
	}
	v, code = Print(v, "!")
	if code != api.OK || string(v.Out) != "25 -7 3\n\xff!" {
		t.Errorf("%q, %d", v.Out, code)
	}
}

func TestPrintOfEachByte(t *testing.T) {
	v := made(t, middleConf())
	all := ""
	for c := range 256 {
		s := string([]byte{byte(c)})
		expectPrint(t, v, s, true)
		v, _ = Print(v, s)
		all += s
	}
	if string(v.Out) != all {
		t.Errorf("%q", v.Out)
	}
}

func TestPrintToAMachineThatIsFull(t *testing.T) {
	v := made(t, leastConf())
	if got, code := Print(v, ""); code != api.OK || !alike(got, v) {
		t.Error("of no byte:", code)
	}
	if got, code := Print(v, "x"); code != api.OutFull || !alike(got, v) {
		t.Error("of a byte:", code)
	}
}

// R3

// calls are calls that hand on a machine.
func calls() map[string]func(api.Vm) api.Vm {
	return map[string]func(api.Vm) api.Vm{
		"Push of 5":    func(v api.Vm) api.Vm { o, _ := Push(v, 5); return o },
		"Push of 6":    func(v api.Vm) api.Vm { o, _ := Push(v, 6); return o },
		"Pop":          func(v api.Vm) api.Vm { _, o, _ := Pop(v); return o },
		"RPush of 5":   func(v api.Vm) api.Vm { o, _ := RPush(v, 5); return o },
		"RPush of 6":   func(v api.Vm) api.Vm { o, _ := RPush(v, 6); return o },
		"RPop":         func(v api.Vm) api.Vm { _, o, _ := RPop(v); return o },
		"Print of a":   func(v api.Vm) api.Vm { o, _ := Print(v, "a"); return o },
		"Print of bc":  func(v api.Vm) api.Vm { o, _ := Print(v, "bc"); return o },
		"Print of ''":  func(v api.Vm) api.Vm { o, _ := Print(v, ""); return o },
		"Print of 100": func(v api.Vm) api.Vm { o, _ := Print(v, strings.Repeat("x", 100)); return o },
		"asking": func(v api.Vm) api.Vm {
			Right(v)
			Same(v, v)
			Kind(v, 216)
			Fits(v.Conf)
			return v
		},
	}
}

// Each two calls, on one machine, and one behind the other: what the first one answered stays, and so does what both were handed.
func TestNoCallChangesWhatItWasGivenNorWhatWasAnswered(t *testing.T) {
	full, empty := busy(t), made(t, leastConf())
	full.Conf.Data, full.Conf.Ret = len(full.D), len(full.R)
	for _, v := range []api.Vm{busy(t), full, empty, roomy(busy(t)), roomy(full), roomy(empty)} {
		kept := whole(v)
		for first, f := range calls() {
			for second, g := range calls() {
				x := f(v)
				answered := deep(x)
				y := g(v)
				other := deep(y)
				z := g(x)
				last := deep(z)
				f(y)
				f(z)
				if !alike(whole(v), kept) {
					t.Fatalf("%s, %s change what they were handed", first, second)
				}
				if !alike(x, answered) || !alike(y, other) || !alike(z, last) {
					t.Fatalf("%s, %s change what was answered", first, second)
				}
			}
		}
	}
}

func TestTwoPushesToOneMachine(t *testing.T) {
	for _, s := range stacks() {
		v := s.with(made(t, middleConf()), 3, 32)
		v = s.of(v, append(make([]int, 0, 20), 1, 2, 3))
		a, _ := s.push(v, 4)
		b, _ := s.push(v, 5)
		_, c, _ := s.pop(v)
		d, _ := s.push(c, 6)
		for what, x := range map[string]struct {
			v    api.Vm
			want []int
		}{"v": {v, []int{1, 2, 3}}, "a": {a, []int{1, 2, 3, 4}}, "b": {b, []int{1, 2, 3, 5}}, "c": {c, []int{1, 2}}, "d": {d, []int{1, 2, 6}}} {
			if !slices.Equal(*s.row(&x.v), x.want) {
				t.Errorf("%s, %s: %v, want %v", s.name, what, *s.row(&x.v), x.want)
			}
		}
	}
}

func TestTwoPrintsToOneMachine(t *testing.T) {
	v := made(t, middleConf())
	v.Out = append(make([]byte, 0, 100), "out"...)
	a, _ := Print(v, "a")
	b, _ := Print(v, "b")
	c, _ := Print(a, "c")
	d, _ := Print(a, "d")
	for _, x := range []struct {
		v    api.Vm
		want string
	}{{v, "out"}, {a, "outa"}, {b, "outb"}, {c, "outac"}, {d, "outad"}} {
		if string(x.v.Out) != x.want {
			t.Errorf("%q, want %q", x.v.Out, x.want)
		}
	}
}

// P10.5

func TestWhatIsPushedIsPopped(t *testing.T) {
	for _, s := range stacks() {
		for _, c := range goodConfs() {
			v := made(t, c)
			room := *s.room(&v)
			var machines []api.Vm
			for i := range room {
				machines = append(machines, v)
				o, code := s.push(v, i*i-7)
				if code != api.OK || !Right(o) {
					t.Fatalf("%s of %v: the push of %d: %d", s.name, c, i, code)
				}
				v = o
			}
			if o, code := s.push(v, 1); code != s.over || !Same(o, v) {
				t.Errorf("%s of %v: one more: %d", s.name, c, code)
			}
			for i := room - 1; i >= 0; i-- {
				n, o, code := s.pop(v)
				if n != i*i-7 || code != api.OK || !Same(o, machines[i]) || !Right(o) {
					t.Fatalf("%s of %v: the pop of %d: %d, %d", s.name, c, i, n, code)
				}
				v = o
			}
			if n, o, code := s.pop(v); n != 0 || code != s.under || !Same(o, v) {
				t.Errorf("%s of %v: one more: %d, %d", s.name, c, n, code)
			}
		}
	}
}

func TestMachinesStayRight(t *testing.T) {
	r := rand.New(rand.NewSource(10))
	for _, v := range rightMachines(t) {
		all := calls()
		var names []string
		for name := range all {
			names = append(names, name)
		}
		slices.Sort(names)
		for range 300 {
			name := names[r.Intn(len(names))]
			if v = all[name](v); !Right(v) {
				t.Fatal("behind", name, "the machine isn't right")
			}
		}
	}
}

// R4

func TestWhatACallAnswersHangsOnItsArgumentsAlone(t *testing.T) {
	v := busy(t)
	for name, call := range calls() {
		if !alike(call(v), call(deep(v))) || !alike(call(v), call(roomy(v))) {
			t.Error(name)
		}
	}
}
