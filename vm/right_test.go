package vm

import (
	"fmt"
	"strings"
	"testing"

	"detent/api"
)

// P10.1, Right

// expectRight holds Right of a machine, that is turned in one thing, against what it should be.
func expectRight(t *testing.T, v api.Vm, what string, want bool, turn func(v *api.Vm)) {
	t.Helper()
	o := deep(v)
	turn(&o)
	if got := Right(o); got != want {
		t.Errorf("Right, %s: %v", what, got)
	}
}

// rightMachines are machines that are right: new ones, and one of which each part has something.
func rightMachines(t *testing.T) []api.Vm {
	t.Helper()
	all := []api.Vm{busy(t)}
	for _, c := range goodConfs() {
		all = append(all, made(t, c))
	}
	return all
}

func TestRightOfRightMachines(t *testing.T) {
	for i, v := range rightMachines(t) {
		if !Right(v) || !Right(deep(v)) {
			t.Error(i, "isn't right")
		}
	}
}

func TestRightOfNothing(t *testing.T) {
	if Right(api.Vm{}) || Right(api.Vm{Conf: middleConf()}) {
		t.Error("nothing is right")
	}
}

func TestRightByItsConfiguration(t *testing.T) {
	for i, v := range rightMachines(t) {
		for field, around := range confsAround(v.Conf) {
			for d, may := range around {
				if may {
					continue
				}
				expectRight(t, v, fmt.Sprint(i, " by ", field, " of ", d), false, func(v *api.Vm) { v.Conf = d })
			}
		}
	}
}

// A configuration that may be, but with other numbers: just what the machine has has to have room.
func TestRightByRoomInItsConfiguration(t *testing.T) {
	v := busy(t)
	for n := 1; n <= 256; n++ {
		expectRight(t, v, fmt.Sprint("Data ", n), n >= 4, func(v *api.Vm) { v.Conf.Data = n })
		expectRight(t, v, fmt.Sprint("Ret ", n), n >= 3, func(v *api.Vm) { v.Conf.Ret = n })
	}
	for n := 200; n <= 1024; n++ {
		expectRight(t, v, fmt.Sprint("Words ", n), true, func(v *api.Vm) { v.Conf.Words = n })
	}
	for n := 0; n <= 100; n++ {
		expectRight(t, v, fmt.Sprint("Out ", n), n >= 6, func(v *api.Vm) { v.Conf.Out = n })
	}
	for n := 2048; n <= 4096; n += 8 {
		expectRight(t, v, fmt.Sprint("Mem ", n), n == 2048, func(v *api.Vm) { v.Conf.Mem = n })
	}
}

func TestRightByItsMemory(t *testing.T) {
	for i, v := range rightMachines(t) {
		n := v.Conf.Mem
		for _, size := range []int{0, 8, 1368, 2040, n - 9, n - 8, n - 7, n - 1, n, n + 1, n + 7, n + 8, 65536, 65544} {
			expectRight(t, v, fmt.Sprint(i, ", bytes ", size), size == n, func(v *api.Vm) { v.Mem.B = make([]byte, size) })
		}
		for _, x := range []struct {
			at, many int
			want     bool
		}{
			{0, 1, true}, {0, n, true}, {n - 1, 1, true}, {n - 8, 8, true}, {n, 0, true}, {1, n - 1, true}, {n + 1, 0, true}, {-1, 0, true},
			{n, 1, false}, {n - 1, 2, false}, {n - 7, 8, false}, {0, n + 1, false}, {1, n, false}, {-1, 1, false}, {-8, 8, false}, {least, 1, false}, {most, 1, false}, {n + 1, 1, false},
		} {
			what := fmt.Sprint(i, ", a patch at ", x.at, " of ", x.many)
			one := api.Patch{At: x.at, Old: make([]byte, x.many)}
			good := api.Patch{At: 3, Old: []byte{1}}
			expectRight(t, v, what, x.want, func(v *api.Vm) { v.Mem.Old = []api.Patch{one} })
			for at := range 3 {
				expectRight(t, v, what, x.want, func(v *api.Vm) {
					v.Mem.Old = []api.Patch{good, good, good}
					v.Mem.Old[at] = one
				})
			}
		}
	}
}

func TestRightAsksNothingOfWhatStandsInMemory(t *testing.T) {
	expectRight(t, busy(t), "other bytes", true, func(v *api.Vm) {
		for i := range v.Mem.B {
			v.Mem.B[i] = 0xff
		}
	})
}

func TestRightByHere(t *testing.T) {
	for i, v := range rightMachines(t) {
		n := v.Conf.Mem
		for here, want := range map[int]bool{
			1368: true, 1369: true, 1375: true, 1376: true, n - 8: true, n - 1: true, n: true,
			1367: false, 1360: false, 32: false, 8: false, 0: false, -1: false, -1368: false, n + 1: false, n + 8: false, 1 << 32: false, 1<<32 + 1368: false, least: false, most: false,
		} {
			expectRight(t, v, fmt.Sprint(i, ", Here ", here), want, func(v *api.Vm) { v.Here = here })
		}
	}
}

func TestRightByItsStacks(t *testing.T) {
	for i, v := range rightMachines(t) {
		for n := 0; n <= 300; n++ {
			expectRight(t, v, fmt.Sprint(i, ", D of ", n), n <= v.Conf.Data, func(v *api.Vm) { v.D = make([]int, n) })
			expectRight(t, v, fmt.Sprint(i, ", R of ", n), n <= v.Conf.Ret, func(v *api.Vm) { v.R = make([]int, n) })
		}
	}
}

func TestRightByHowManyFramesRequestsAndHandlersThereAre(t *testing.T) {
	for i, v := range rightMachines(t) {
		for n := 0; n <= 130; n++ {
			expectRight(t, v, fmt.Sprint(i, ", frames ", n), n <= 64, func(v *api.Vm) { v.F = make([]api.Frame, n) })
			expectRight(t, v, fmt.Sprint(i, ", asked for ", n), n <= 16, func(v *api.Vm) { v.Req = make([]api.Req, n) })
			expectRight(t, v, fmt.Sprint(i, ", handlers ", n), n <= 64, func(v *api.Vm) { v.Hand = make([]api.Hand, n) })
		}
	}
}

// places are places in a row of so many: the first, the last, and some between.
func places(n int) []int { return []int{0, n / 2, n - 1} }

func TestRightByEachFrame(t *testing.T) {
	bounds := map[int]bool{
		0: true, 1: true, 128: true, 255: true, 256: true,
		-1: false, -2: false, -256: false, 257: false, 258: false, 512: false, 1 << 32: false, least: false, most: false,
	}
	v := busy(t)
	for _, many := range []int{1, 2, 3, 64} {
		for _, at := range places(many) {
			for n, want := range bounds {
				what := fmt.Sprintf("of frame %d of %d", at, many)
				expectRight(t, v, fmt.Sprint(what, " D ", n), want, func(v *api.Vm) {
					v.F = make([]api.Frame, many)
					v.F[at].D = n
				})
				expectRight(t, v, fmt.Sprint(what, " R ", n), want, func(v *api.Vm) {
					v.F = make([]api.Frame, many)
					v.F[at].R = n
				})
				expectRight(t, v, fmt.Sprint(what, " Ip ", n), true, func(v *api.Vm) {
					v.F = make([]api.Frame, many)
					v.F[at].Ip = n
				})
			}
		}
	}
}

func TestRightByItsDictionary(t *testing.T) {
	for i, v := range rightMachines(t) {
		for _, n := range []int{0, 1, 167, 199, 200, 201, 299, 300, 301, 1023, 1024, 1025} {
			expectRight(t, v, fmt.Sprint(i, ", words ", n), n <= v.Conf.Words, func(v *api.Vm) { v.Dict = fewWords(n) })
		}
		n := v.Conf.Words
		for _, many := range []int{n - 1, n, n + 1} {
			expectRight(t, v, fmt.Sprint(i, ", words ", many), many <= n, func(v *api.Vm) { v.Dict = fewWords(many) })
		}
		for _, at := range places(len(v.Dict)) {
			for _, w := range []api.Word{{}, {Name: "a b"}, {Name: "a\x00"}, {Name: "a", Flags: 8}, {Name: "a", Flags: -1}, {Name: strings.Repeat("x", 32)}} {
				expectRight(t, v, fmt.Sprint(i, ", at ", at, " the word ", w), false, func(v *api.Vm) { v.Dict[at] = w })
			}
			for _, w := range []api.Word{{Name: "a"}, {Name: "a", Flags: 7, Xt: -1}, {Name: "\xff", Xt: most}, {Name: strings.Repeat("x", 31), Xt: least}} {
				expectRight(t, v, fmt.Sprint(i, ", at ", at, " the word ", w), true, func(v *api.Vm) { v.Dict[at] = w })
			}
		}
	}
}

// fewWords are so many words.
func fewWords(n int) []api.Word {
	l := make([]api.Word, n)
	for i := range l {
		l[i].Name = fmt.Sprint("w", i)
	}
	return l
}

func TestRightByWhatWasPutOut(t *testing.T) {
	for i, v := range rightMachines(t) {
		for _, n := range []int{0, 1, v.Conf.Out - 1, v.Conf.Out, v.Conf.Out + 1, 65536, 65537} {
			if n >= 0 {
				expectRight(t, v, fmt.Sprint(i, ", put out ", n), n <= v.Conf.Out, func(v *api.Vm) { v.Out = make([]byte, n) })
			}
		}
	}
}

func TestRightByItsNumbersText(t *testing.T) {
	v := busy(t)
	for _, n := range []int{0, 1, 129, 130, 131, 200} {
		expectRight(t, v, fmt.Sprint("begun, signs ", n), n <= 130, func(v *api.Vm) { v.Pic = api.Pic{On: true, B: make([]byte, n)} })
		expectRight(t, v, fmt.Sprint("not begun, signs ", n), n == 0, func(v *api.Vm) { v.Pic = api.Pic{B: make([]byte, n)} })
	}
}

func TestRightByFreeAndNext(t *testing.T) {
	for i, v := range rightMachines(t) {
		for n, want := range map[int]bool{0: true, 1: true, 16: true, 63: true, 64: true, 65: false, 66: false, 128: false, -1: false, -64: false, 1 << 32: false, least: false, most: false} {
			expectRight(t, v, fmt.Sprint(i, ", Free ", n), want, func(v *api.Vm) { v.Free = n })
		}
		for n, want := range map[int]bool{0: true, 1: true, 65: true, 1 << 32: true, 1<<62 - 1: true, 1 << 62: true, 1<<62 + 1: false, 1<<62 + 1<<61: false, most: false, -1: false, -2: false, -1 << 62: false, least: false} {
			expectRight(t, v, fmt.Sprint(i, ", Next ", n), want, func(v *api.Vm) { v.Next = n })
		}
	}
}

func TestRightByEachHandlersFuel(t *testing.T) {
	v := busy(t)
	for _, many := range []int{1, 2, 3, 64} {
		for _, at := range places(many) {
			for n, want := range map[int]bool{0: true, 1: true, 1 << 20: true, 1 << 40: true, most: true, -1: false, -2: false, -1 << 32: false, least: false} {
				expectRight(t, v, fmt.Sprintf("of handler %d of %d fuel %d", at, many, n), want, func(v *api.Vm) {
					v.Hand = make([]api.Hand, many)
					v.Hand[at].Fuel = n
				})
			}
		}
	}
}

// Of what the chapter doesn't name anything is right.
func TestRightAsksNothingOfAllElse(t *testing.T) {
	v := busy(t)
	for _, n := range []int{0, 1, -1, 8, 65, 257, 1 << 32, least, most} {
		for what, turn := range map[string]func(v *api.Vm){
			"Last": func(v *api.Vm) { v.Last = n },
			"Arg":  func(v *api.Vm) { v.Arg = n },
			"Self": func(v *api.Vm) { v.Self = n },
			"Now":  func(v *api.Vm) { v.Now = n },
			"cells": func(v *api.Vm) {
				v.D, v.R = []int{n, n}, []int{n}
			},
			"what is asked for": func(v *api.Vm) {
				v.Req = []api.Req{{Kind: n, Arg: n, Hand: n, Rank: n, Delay: n, Id: n}}
			},
			"a handler's word and strikes": func(v *api.Vm) {
				v.Hand = []api.Hand{{Xt: n, Strikes: n, Out: true}}
			},
		} {
			expectRight(t, v, fmt.Sprint(what, " ", n), true, turn)
		}
	}
}
