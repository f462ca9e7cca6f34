package synod

import (
	"synod/api"
	"synod/ring"
	"synod/wire"
)

// place is where one may precommit once.
type place struct {
	height, round, sender int
}

// precommits reads those of frames that are precommits, and signed.
func precommits(r *ring.Ring, frames []string) []api.Msg {
	var votes []api.Msg
	for _, frame := range frames {
		if m, err := wire.Open(r, frame); err == nil && m.Kind == api.Precommit {
			votes = append(votes, m)
		}
	}
	return votes
}

// doubleVoters tells who has sent two precommits that differ in one place. (Where any two do, one of them differs from the first.)
func doubleVoters(votes []api.Msg) [api.MaxIds]bool {
	first := map[place]api.Msg{}
	var ids [api.MaxIds]bool
	for _, m := range votes {
		p := place{m.Height, m.Round, m.From}
		other, ok := first[p]
		if !ok {
			first[p] = m
		} else if other != m {
			ids[m.From] = true
		}
	}
	return ids
}
