// Package wire turns messages into frames, and frames into messages.
package wire

import (
	"strings"

	"synod/api"
	"synod/ring"
)

// Where the parts of a frame stand.
const (
	atKind = iota
	atHeight
	atRound
	atFrom
	atMark
	atSize
	atValue
)

// A round has one byte of a frame. (What a node takes is bound by api.MaxRound; what a frame is, is not.)
const maxRound = 255

// Encode makes the frame of a message.
func Encode(m api.Msg) (string, error) {
	if !hasFrame(m) {
		return "", api.ErrForm
	}
	b := make([]byte, atValue+len(m.Value))
	b[atKind] = byte(m.Kind)
	b[atHeight] = byte(m.Height)
	b[atRound] = byte(m.Round)
	b[atFrom] = byte(m.From)
	b[atMark] = mark(m)
	b[atSize] = byte(len(m.Value))
	copy(b[atValue:], m.Value)
	return string(b), nil
}

// Decode reads the message of a frame.
func Decode(text string) (api.Msg, error) {
	if len(text) < atValue || len(text) != atValue+int(text[atSize]) {
		return api.Msg{}, api.ErrForm
	}
	m := api.Msg{
		Kind:   int(text[atKind]),
		Height: int(text[atHeight]),
		Round:  int(text[atRound]),
		From:   int(text[atFrom]),
		Value:  strings.Clone(text[atValue:]), // a piece of the text would keep the caller's memory
	}
	if m.Kind == api.Proposal {
		m.Valid = int(text[atMark]) - 1
	} else {
		m.Nil = text[atMark] == 1
	}
	// A vote's mark above 1 is lost in the message: the mark made anew shows it.
	if !hasFrame(m) || mark(m) != text[atMark] {
		return api.Msg{}, api.ErrForm
	}
	return m, nil
}

// Open reads a frame that is signed by its sender; any other one is refused.
func Open(r *ring.Ring, text string) (api.Msg, error) {
	m, err := Decode(text)
	if err != nil {
		return api.Msg{}, &api.Refused{From: -1, Why: err}
	}
	if !r.Signed(m.From, text) {
		return api.Msg{}, &api.Refused{From: m.From, Why: api.ErrSeal}
	}
	return m, nil
}

// mark is the byte that tells a proposal's valid round, or whether a vote is for nothing.
func mark(m api.Msg) byte {
	if m.Kind == api.Proposal {
		return byte(m.Valid + 1)
	}
	if m.Nil {
		return 1
	}
	return 0
}

// hasFrame tells whether there is a frame that says this message.
func hasFrame(m api.Msg) bool {
	if m.Height < 0 || m.Height >= api.MaxHeight || m.Round < 0 || m.Round > maxRound {
		return false
	}
	if m.From < 0 || m.From >= api.MaxIds || len(m.Value) > api.MaxValue {
		return false
	}
	switch m.Kind {
	case api.Proposal:
		return !m.Nil && m.Valid >= -1 && m.Valid < m.Round
	case api.Prevote, api.Precommit:
		return m.Valid == 0 && (!m.Nil || m.Value == "")
	}
	return false
}
