package inner

import (
	"errors"
	"testing"

	"detent/api"
)

// A code is handed up as an error that tells where it came from.
func TestErrorsTellWhereTheyCameFrom(t *testing.T) {
	v := plain(t)
	r := api.Run{Vm: v, Ip: 1400, W: 216, Do: true, Fuel: 5}
	if _, err := done(r, 216); codeOf(err) != api.Under || err.Error() != "at 216: code -4" {
		t.Error("DUP:", err)
	}
	if _, err := done(r, 1401); codeOf(err) != api.Align || err.Error() != "at 1401: code -23" {
		t.Error("no word:", err)
	}
	r.Do = false
	r.Ip = 4096
	if _, _, err := next(r); codeOf(err) != api.Address || err.Error() != "at 4096: code -9" {
		t.Error("no cell:", err)
	}
	_, err := done(r, place(t, "(halt)"))
	if !errors.Is(err, errHalt) || codeOf(err) != api.OK || err.Error() != "at 96: the run is over" {
		t.Error("(halt):", err)
	}
	if codeOf(nil) != api.OK || codeOf(from{1, from{2, thrown{api.Throw(77)}}}) != 77 {
		t.Error("codes of errors")
	}
}
