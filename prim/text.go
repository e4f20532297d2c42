package prim

import (
	"strings"

	"detent/api"
	"detent/mem"
	"detent/num"
	"detent/pic"
)

// pad is how many bytes ahead of memory's end a number's text is written: room for the longest one, where a cell may stand.
const pad = 136

// printDeeds are what words do that put out.
func printDeeds() map[string]deed {
	return map[string]deed{
		"EMIT": prints(1, func(_ api.Vm, s []int) (string, api.Throw) {
			return string([]byte{byte(s[0])}), api.OK
		}),
		"CR":     printsSame("\n"),
		"SPACE":  printsSame(" "),
		"SPACES": prints(1, blanks),
		"TYPE":   prints(2, typed),
		".":      printsNumber(num.Show),
		"U.":     printsNumber(num.UShow),
	}
}

// printsSame is the deed of a word that puts out always the same text.
func printsSame(text string) deed {
	return prints(0, func(api.Vm, []int) (string, api.Throw) { return text, api.OK })
}

// blanks are as many blanks as the cell tells.
func blanks(v api.Vm, s []int) (string, api.Throw) {
	// One more than ever have room is as good as any more: a text of each number of blanks can't be made.
	return strings.Repeat(" ", min(max(s[0], 0), v.Conf.Out+1)), api.OK
}

// typed is a text in memory.
func typed(v api.Vm, s []int) (string, api.Throw) {
	text, code := mem.Text(v.Mem, s[0], s[1])
	return string(text), code
}

// printsNumber is the deed of a word that puts out a cell in the base, and a blank.
func printsNumber(show func(n, base int) (string, api.Throw)) deed {
	return prints(1, func(v api.Vm, s []int) (string, api.Throw) {
		digits, code := show(s[0], base(v))
		return digits + " ", code
	})
}

// picDeeds are what words do that put a number's text together.
func picDeeds() map[string]deed {
	return map[string]deed{
		"<#": turns(0, func(v api.Vm, _ []int) (api.Vm, api.Throw) {
			v.Pic = pic.Begin()
			return v, api.OK
		}),
		"#":    taking(2, oneDigit),
		"#S":   taking(2, allDigits),
		"HOLD": holds(pic.Hold),
		"SIGN": holds(pic.Sign),
		"#>":   taking(2, ended),
	}
}

// oneDigit lays a pair's last digit, and leaves the pair without it.
func oneDigit(v api.Vm, s []int) (api.Vm, []int, api.Throw) {
	held, low, high, code := pic.Digit(v.Pic, s[0], s[1], base(v))
	v.Pic = held
	return v, []int{low, high}, code
}

// allDigits lays all digits of a pair, of which nothing is left.
func allDigits(v api.Vm, s []int) (api.Vm, []int, api.Throw) {
	held, code := pic.All(v.Pic, s[0], s[1], base(v))
	v.Pic = held
	return v, []int{0, 0}, code
}

// ended writes the text that was put together, and leaves where it stands, and how long it is.
func ended(v api.Vm, _ []int) (api.Vm, []int, api.Throw) {
	text, code := pic.End(v.Pic)
	if code != api.OK {
		return v, nil, code
	}
	at := len(v.Mem.B) - pad
	v.Mem, code = mem.Write(v.Mem, at, []byte(text))
	v.Pic = api.Pic{}
	return v, []int{at, len(text)}, code
}
