package vm

import (
	"encoding/binary"
	"reflect"
	"slices"
	"strings"
	"testing"

	"detent/api"
	"detent/dict"
)

// P10.2

// bytesByHand are the bytes of a new machine's memory, as the chapter tells them.
func bytesByHand(n int) []byte {
	b := make([]byte, n)
	binary.LittleEndian.PutUint64(b[0:], 10)
	binary.LittleEndian.PutUint64(b[8:], 0)
	binary.LittleEndian.PutUint64(b[16:], 32+8*8)
	binary.LittleEndian.PutUint64(b[24:], 32+8*9)
	for i, w := range allByHand() {
		binary.LittleEndian.PutUint64(b[32+8*i:], uint64(w.n))
	}
	return b
}

// flagsByHand are a word's flags, by its number, as the chapter tells them.
func flagsByHand(w numbered) int {
	switch {
	case w.n <= 11:
		return 2 + 4
	case slices.Contains([]string{"I", "J", "UNLOOP", ">R", "R>", "R@", "2>R", "2R>"}, w.name):
		return 4
	case slices.Contains(strings.Fields(`; DOES> ['] [CHAR] LITERAL POSTPONE RECURSE IF ELSE THEN BEGIN WHILE REPEAT UNTIL AGAIN DO ?DO LOOP +LOOP LEAVE S" EXIT`), w.name):
		return 1 + 4
	case slices.Contains([]string{`."`, "(", `\`, "["}, w.name):
		return 1
	}
	return 0
}

// wordsByHand are a new machine's words, as the chapter tells them.
func wordsByHand() []api.Word {
	var l []api.Word
	for i, w := range allByHand() {
		l = append(l, api.Word{Name: w.name, Xt: 32 + 8*i, Flags: flagsByHand(w)})
	}
	return l
}

func TestNewHasEachByteOfItsMemory(t *testing.T) {
	for _, c := range goodConfs() {
		v := made(t, c)
		want := bytesByHand(c.Mem)
		if len(v.Mem.B) != c.Mem {
			t.Fatalf("New of %v: %d bytes", c, len(v.Mem.B))
		}
		for at := range want {
			if v.Mem.B[at] != want[at] {
				t.Errorf("New of %v: at %d %d, want %d", c, at, v.Mem.B[at], want[at])
			}
		}
		if len(v.Mem.Old) != 0 {
			t.Errorf("New of %v: %d patches", c, len(v.Mem.Old))
		}
	}
}

func TestNewsCellsByExample(t *testing.T) {
	v := made(t, leastConf())
	for at, want := range map[int]int{
		0: 10, 8: 0, 16: 96, 24: 104, 32: 0, 40: 1, 96: 8, 104: 9, 120: 11, 128: 12, 216: 23, 1064: 129,
		1072: 300, 1080: 301, 1360: 336, 1368: 0, 1376: 0, 2040: 0,
	} {
		if got := int(int64(binary.LittleEndian.Uint64(v.Mem.B[at:]))); got != want {
			t.Errorf("at %d: %d, want %d", at, got, want)
		}
	}
}

func TestNewHasEachWord(t *testing.T) {
	want := wordsByHand()
	if len(want) != 167 {
		t.Fatal(len(want))
	}
	for _, c := range goodConfs() {
		v := made(t, c)
		if len(v.Dict) != len(want) {
			t.Fatalf("New of %v: %d words", c, len(v.Dict))
		}
		for i, w := range want {
			if v.Dict[i].Name != w.Name || v.Dict[i].Xt != w.Xt || v.Dict[i].Flags != w.Flags {
				t.Errorf("New of %v, the word at %d: %v, want %v", c, i, v.Dict[i], w)
			}
		}
	}
}

func TestNewsFlagsByExample(t *testing.T) {
	v := made(t, middleConf())
	count := map[int]int{}
	for _, w := range v.Dict {
		count[w.Flags]++
	}
	if !reflect.DeepEqual(count, map[int]int{6: 12, 4: 8, 5: 22, 1: 4, 0: 121}) {
		t.Error(count)
	}
	for name, want := range map[string]int{
		"(exit)": 6, "(str)": 6, "EXECUTE": 0, "CATCH": 0, "THROW": 0, "I": 4, "2R>": 4, "DUP": 0, "GET-STATE": 0,
		":": 0, ";": 5, "CREATE": 0, "DOES>": 5, "IMMEDIATE": 0, "'": 0, "[']": 5, "CHAR": 0, "[CHAR]": 5, "LITERAL": 5,
		`S"`: 5, `."`: 1, "(": 1, `\`: 1, "[": 1, "]": 0, "FORGET": 0, "MACHINE": 0, "ON:": 0, "EXIT": 5, "IF": 5, "DO": 5, "?DO": 5,
	} {
		at := slices.IndexFunc(v.Dict, func(w api.Word) bool { return w.Name == name })
		if at < 0 || v.Dict[at].Flags != want {
			t.Errorf("%s at %d, want flags %d", name, at, want)
		}
	}
}

// What isn't named is nothing: each part of the machine, whatever parts it may have.
func TestAllElseOfNewIsNoughtAndEmpty(t *testing.T) {
	named := []string{"Conf", "Mem", "Here", "Dict"}
	for _, c := range goodConfs() {
		v := made(t, c)
		if v.Conf != c || v.Here != 1368 {
			t.Errorf("New of %v: Conf %v, Here %d", c, v.Conf, v.Here)
		}
		r := reflect.ValueOf(v)
		for i := range r.NumField() {
			name, part := r.Type().Field(i).Name, r.Field(i)
			if !slices.Contains(named, name) && !alikeValues(part, reflect.Zero(part.Type())) {
				t.Errorf("New of %v: %s is %v", c, name, part)
			}
		}
	}
}

func TestNewOfConfigurationsThatMayNotBe(t *testing.T) {
	for _, c := range goodConfs() {
		for field, around := range confsAround(c) {
			for d, may := range around {
				if may {
					continue
				}
				v, code := New(d)
				if code != api.BadNumber || !alike(v, api.Vm{}) {
					t.Errorf("New, by its %s, of %v: %d, or something of a machine", field, d, code)
				}
			}
		}
	}
	if v, code := New(api.Conf{}); int(code) != -24 || !alike(v, api.Vm{}) {
		t.Errorf("New of nothing: %d", code)
	}
}

func TestNewOfEachConfigurationAround(t *testing.T) {
	for field, around := range confsAround(middleConf()) {
		for d, may := range around {
			if v, code := New(d); may && (code != api.OK || v.Conf != d || len(v.Mem.B) != d.Mem || len(v.Dict) != 167 || !Right(v)) {
				t.Errorf("New, by its %s, of %v: %d", field, d, code)
			}
		}
	}
}

func TestNewHandsOutMemoryOfItsOwn(t *testing.T) {
	for _, c := range goodConfs() {
		a, b := made(t, c), made(t, c)
		kept := deep(b)
		for i := range a.Mem.B {
			a.Mem.B[i] ^= 0xff
		}
		for i := range a.Dict {
			a.Dict[i] = api.Word{Name: "other"}
		}
		_ = append(a.Dict, api.Word{Name: "more"})
		if !alike(b, kept) || !alike(made(t, c), kept) {
			t.Errorf("New of %v: one machine is seen in another one", c)
		}
	}
}

// P10.5

func TestTwoNewMachinesOfOneConfigurationAreTheSame(t *testing.T) {
	for i, c := range goodConfs() {
		for k, d := range goodConfs() {
			a, b := made(t, c), made(t, d)
			if Same(a, b) != (i == k) || alike(a, b) != (i == k) {
				t.Errorf("of %v and %v: %v", c, d, Same(a, b))
			}
		}
	}
}

func TestANewMachineIsRight(t *testing.T) {
	for _, c := range goodConfs() {
		if !Right(made(t, c)) {
			t.Errorf("of %v isn't right", c)
		}
	}
}

func TestANewMachineFindsItsWords(t *testing.T) {
	for _, c := range goodConfs() {
		v := made(t, c)
		for i, x := range allByHand() {
			for _, name := range []string{x.name, strings.ToLower(x.name)} {
				w, at, is := dict.Find(v.Dict, name)
				if is != (x.n > 11) {
					t.Errorf("of %v: %s is found: %v", c, name, is)
				}
				if n, code := Kind(v, w.Xt); is && (w.Name != x.name || at != i || n != x.n || code != api.OK) {
					t.Errorf("of %v: %s: %v at %d, its code field %d, %d", c, name, w, at, n, code)
				}
			}
		}
		for _, name := range []string{"(exit)", "(LIT)", "(str)", "FOO", "", "(", "D", "DUPE"} {
			if _, _, is := dict.Find(v.Dict, name); is != (name == "(") {
				t.Errorf("of %v: %q is found: %v", c, name, is)
			}
		}
	}
}

func TestANewMachineHasAWordOfEachCodeField(t *testing.T) {
	v := made(t, middleConf())
	for i, x := range allByHand() {
		w, at, is := dict.Of(v.Dict, 32+8*i)
		if !is || at != i || w.Name != x.name {
			t.Errorf("%d: %v at %d", x.n, w, at)
		}
		if n, code := Kind(v, 32+8*i); n != x.n || code != api.OK {
			t.Errorf("%s: %d, %d", x.name, n, code)
		}
	}
}
