package prim

import (
	"slices"

	"detent/api"
)

// mostNext is the number of which no timer can be any more.
const mostNext = 1 << 62

// eventDeeds are what words do that ask for events and timers, and that tell of the one that is answered.
func eventDeeds() map[string]deed {
	return map[string]deed{
		"POST":   turns(3, posted),
		"AFTER":  timed(api.RAfter),
		"EVERY":  timed(api.REvery),
		"CANCEL": turns(1, cancelled),
		"ARG":    tells(func(v api.Vm) int { return v.Arg }),
		"SELF":   tells(func(v api.Vm) int { return v.Self }),
		"NOW":    tells(func(v api.Vm) int { return v.Now }),
	}
}

// posted asks for an event.
func posted(v api.Vm, s []int) (api.Vm, api.Throw) {
	r := api.Req{Kind: api.RPost, Arg: s[0], Hand: s[1], Rank: s[2]}
	if !hasHandler(v, r) {
		return v, api.NoHandler
	}
	return asked(v, r)
}

// timed is the deed of a word that asks for a timer of a kind, and leaves its number.
func timed(kind int) deed {
	return taking(4, func(v api.Vm, s []int) (api.Vm, []int, api.Throw) {
		r := api.Req{Kind: kind, Arg: s[0], Hand: s[1], Rank: s[2], Delay: s[3], Id: v.Next}
		if !hasHandler(v, r) {
			return v, nil, api.NoHandler
		}
		if r.Delay < 1 || r.Delay >= api.Far {
			return v, nil, api.BadNumber
		}
		v, code := asked(v, r)
		if code != api.OK {
			return v, nil, code
		}
		if v.Free == 0 || v.Next == mostNext {
			return v, nil, api.PoolFull
		}
		v.Next++
		v.Free--
		return v, []int{r.Id}, api.OK
	})
}

// cancelled asks for a timer's end.
func cancelled(v api.Vm, s []int) (api.Vm, api.Throw) {
	return asked(v, api.Req{Kind: api.RCancel, Id: s[0]})
}

// hasHandler: are there such a handler, and such a rank?
func hasHandler(v api.Vm, r api.Req) bool {
	return r.Hand >= 0 && r.Hand < len(v.Hand) && r.Rank >= 0 && r.Rank < api.Ranks
}

// asked is a machine that asks for one thing more.
func asked(v api.Vm, r api.Req) (api.Vm, api.Throw) {
	if len(v.Req) >= api.MaxReqs {
		return v, api.PostFull
	}
	// A row of its own, as a stack's.
	v.Req = slices.Concat(v.Req, []api.Req{r})
	return v, api.OK
}
