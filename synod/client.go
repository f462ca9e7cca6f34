package synod

import (
	"errors"

	"synod/api"
	"synod/ring"
	"synod/wire"
)

// openAll reads frames. A text that is no frame is told ahead of a frame that is not signed, wherever they stand.
func openAll(r *ring.Ring, frames []string) ([]api.Msg, error) {
	var messages []api.Msg
	var unsigned error
	for _, frame := range frames {
		m, err := wire.Open(r, frame)
		if errors.Is(err, api.ErrForm) {
			return nil, err
		}
		if err != nil {
			unsigned = err
		}
		messages = append(messages, m)
	}
	if unsigned != nil {
		return nil, unsigned
	}
	return messages, nil
}

// why is the error as it is behind a frame's that was refused: of a certificate no one sender is to be told.
func why(err error) error {
	var refused *api.Refused
	if errors.As(err, &refused) {
		return refused.Why
	}
	return err
}

// isDecided tells whether votes are the certificate of a block at the client's height. (At MaxHeight none are: no frame is of that height, and no votes have no power.)
func (c *Client) isDecided(block string, votes []api.Msg) bool {
	var senders [api.MaxIds]bool
	for _, m := range votes {
		want := api.Msg{Kind: api.Precommit, Height: c.height, Round: votes[0].Round, From: m.From, Value: block}
		if m != want || senders[m.From] {
			return false
		}
		senders[m.From] = true
	}
	return c.registry.MoreThan(2, senders)
}
