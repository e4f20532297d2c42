package inner

import (
	"errors"
	"strconv"

	"detent/api"
)

// errHalt tells that a run is over.
var errHalt = errors.New("the run is over")

// thrown is a code as an error.
type thrown struct{ code api.Throw }

func (t thrown) Error() string { return "code " + strconv.Itoa(int(t.code)) }

// from is an error with the place that it came from: that of a word's code field, or of a cell that isn't there.
type from struct {
	at  int
	err error
}

func (f from) Error() string { return "at " + strconv.Itoa(f.at) + ": " + f.err.Error() }

func (f from) Unwrap() error { return f.err }

// codeOf is the code in an error; OK: there is none in it.
func codeOf(err error) api.Throw {
	var t thrown
	if !errors.As(err, &t) {
		return api.OK
	}
	return t.code
}
