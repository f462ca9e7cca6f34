package synod_test

import (
	"errors"
	"testing"

	"synod/api"
	"synod/ring"
)

// at1 is a node at the height 1, with powers of 0 to 3, the block v22 decided.
func at1(t *testing.T) *scene {
	t.Helper()
	s := enter(t, 3, 1, 1, 1, 1)
	s.decides(0, 0, "v22", 0, 1, 2)
	s.sent()
	return s
}

func TestP7EachError(t *testing.T) {
	for _, c := range []struct {
		name string
		msg  api.Msg
		want error
	}{
		{"the height below", prevoteNothing(0, 3, 1), api.ErrPast},
		{"the height below, from one without power", prevoteNothing(0, 3, 7), api.ErrPast},
		{"the height below, known", precommit(0, 0, 1, "v22"), api.ErrPast},
		{"the height below, a late round", prevoteNothing(0, 21, 1), api.ErrPast},
		{"the height below, not the proposer", proposal(0, 0, 1, -1, ""), api.ErrPast},
		{"two heights above", prevoteNothing(3, 0, 1), api.ErrFar},
		{"many heights above", prevoteNothing(11, 0, 7), api.ErrFar},
		{"a round too late", prevoteNothing(1, 21, 1), api.ErrFar},
		{"a round too late, from one without power", prevoteNothing(1, 255, 7), api.ErrFar},
		{"a round too late, of the next height", prevoteNothing(2, 21, 1), api.ErrFar},
		{"without power", prevoteNothing(1, 0, 4), api.ErrOutsider},
		{"without power, a precommit", precommit(1, 20, 7, ""), api.ErrOutsider},
		{"without power, a proposal", proposal(1, 0, 5, -1, ""), api.ErrOutsider},
		{"not the proposer", proposal(1, 0, 2, -1, ""), api.ErrOutsider},
		{"not the proposer of a later round", proposal(1, 1, 1, -1, ""), api.ErrOutsider},
		{"the node's own id, not the proposer", proposal(1, 1, 3, -1, ""), api.ErrOutsider},
	} {
		t.Run(c.name, func(t *testing.T) { at1(t).refusesMsg(c.msg, c.want) })
	}
}

func TestP7WhatIsTaken(t *testing.T) {
	for _, m := range []api.Msg{
		prevoteNothing(1, 0, 0), prevote(1, 20, 1, "any text"), precommit(1, 0, 2, ""), precommitNothing(1, 20, 3),
		proposal(1, 0, 1, -1, "x"), proposal(1, 1, 2, 0, ""), proposal(1, 20, 1, 19, ""),
		prevoteNothing(2, 0, 7), prevote(2, 20, 4, ""), proposal(2, 0, 7, -1, ""), proposal(2, 20, 0, 3, "x"),
	} {
		s := at1(t)
		s.takes(m)
		s.refusesMsg(m, api.ErrKnown)
	}
}

func TestP7Form(t *testing.T) {
	s := at1(t)
	good := s.frame(prevote(1, 0, 0, "ja1"))
	for _, text := range []string{"", "x", good[:len(good)-1], good + "\x00", "\x00" + good, "\x04" + good[1:], "\x02\x0c\x00\x00\x01\x00", "\x02\x01\x00\x08\x01\x00", "\x02\x01\x00\x00\x02\x00", "\x01\x01\x03\x00\x04\x00"} {
		s.keys[0].Sign(text)
		s.refuses(text, -1, api.ErrForm)
	}
	if err := s.node.Receive(good); err != nil {
		t.Errorf("Receive(%q) = %v", good, err)
	}
}

// Nothing counts that is not signed by the sender itself, whatever else is wrong with it.
func TestP7Seal(t *testing.T) {
	s := at1(t)
	for _, text := range []string{"\x02\x01\x00\x00\x00\x03ja1", "\x02\x00\x00\x00\x01\x00", "\x02\x05\x00\x00\x01\x00", "\x02\x01\xff\x00\x01\x00", "\x01\x01\x00\x00\x00\x00"} {
		s.refuses(text, 0, api.ErrSeal)
		s.keys[1].Sign(text) // another one's
		s.refuses(text, 0, api.ErrSeal)
	}
	s.sends("nothing is told again")
	outside, keys := ring.New(8)
	keys[0].Sign("\x02\x01\x00\x00\x00\x03ja1") // of another ring
	if !outside.Signed(0, "\x02\x01\x00\x00\x00\x03ja1") {
		t.Fatal("the ring does not hold")
	}
	s.refuses("\x02\x01\x00\x00\x00\x03ja1", 0, api.ErrSeal)
	s.keys[0].Sign("\x02\x01\x00\x00\x00\x03ja1")
	s.takes(prevote(1, 0, 0, "ja1"))
}

// A ring may have fewer ids than frames can name.
func TestP7SealOfASmallRing(t *testing.T) {
	_, keys := ring.New(2)
	s := &scene{t, keys, node(t, keys[0], 1, 1, 1, 1)}
	for id := byte(2); id < 8; id++ {
		s.refuses("\x02\x00\x00"+string([]byte{id})+"\x01\x00", int(id), api.ErrSeal)
	}
	s.takes(prevoteNothing(0, 0, 1))
}

func TestP7Known(t *testing.T) {
	s := enter(t, 0, 1, 1, 1, 1)
	s.refusesMsg(proposal(0, 0, 0, -1, ""), api.ErrKnown) // its own
	s.refusesMsg(prevote(0, 0, 0, ""), api.ErrKnown)
	s.takes(prevoteNothing(0, 0, 1), prevote(0, 0, 1, ""))
	s.refusesMsg(prevoteNothing(0, 0, 1), api.ErrKnown) // ahead of ErrMany
	s.refusesMsg(prevote(0, 0, 1, ""), api.ErrKnown)
	s.takes(prevoteNothing(1, 0, 1), prevote(1, 0, 1, ""))
	s.refusesMsg(prevoteNothing(1, 0, 1), api.ErrKnown)
	s.refusesMsg(prevote(1, 0, 1, ""), api.ErrKnown)
}

func TestP7Many(t *testing.T) {
	s := enter(t, 3, 1, 1, 1, 1)
	for _, height := range []int{0, 1} {
		for _, kind := range []int{api.Proposal, api.Prevote, api.Precommit} {
			said := func(round int, value string) api.Msg {
				m := api.Msg{Kind: kind, Height: height, Round: round, Value: value}
				if kind == api.Proposal {
					m.Valid = -1
				}
				return m
			}
			s.takes(said(8, "a"), said(8, "b"))
			s.refusesMsg(said(8, "c"), api.ErrMany)
			s.refusesMsg(said(8, "d"), api.ErrMany)
			s.takes(said(4, "c"), said(12, "c"))
		}
	}
	s.refusesMsg(prevoteNothing(0, 8, 0), api.ErrMany)
	s.takes(prevoteNothing(0, 8, 1)) // of another sender
	s.refusesMsg(proposal(0, 8, 0, 7, "a"), api.ErrMany)
}

// What a node has sent itself counts among the two.
func TestP7ManyOfItsOwn(t *testing.T) {
	s := enter(t, 0, 1, 1, 1, 1)
	s.takes(proposal(0, 0, 0, -1, "ja1"))
	s.refusesMsg(proposal(0, 0, 0, -1, "jb1"), api.ErrMany)
	s.takes(prevote(0, 0, 0, "ja1"))
	s.refusesMsg(prevoteNothing(0, 0, 0), api.ErrMany)
	s.takes(precommit(0, 0, 0, "ja1"), precommit(0, 0, 0, "jb1"))
	s.refusesMsg(precommit(0, 0, 0, "jc1"), api.ErrMany)
	s.sent()
	s.takes(prevote(0, 0, 1, ""), prevote(0, 0, 2, ""))
	s.sends("its own is put into the log, whatever is in it", precommit(0, 0, 0, ""))
	s.takes(precommit(0, 0, 1, ""), precommit(0, 0, 2, ""))
	s.decided(0, "", from(precommit(0, 0, 0, ""), 0, 1, 2)...)
}

// Taken ahead of time, and still known (and counted) when the height is reached.
func TestP7KnownFromAheadOfTime(t *testing.T) {
	s := enter(t, 3, 1, 1, 1, 1)
	s.takes(prevote(1, 0, 0, "a"), prevote(1, 0, 0, "b"))
	s.decides(0, 0, "", 0, 1, 2)
	s.refusesMsg(prevote(1, 0, 0, "a"), api.ErrKnown)
	s.refusesMsg(prevote(1, 0, 0, "c"), api.ErrMany)
	s.takes(prevote(2, 0, 0, "a"), prevote(2, 0, 0, "b")) // the next height begins anew
	s.refusesMsg(prevote(2, 0, 0, "c"), api.ErrMany)
}

func TestP7PastIsToldAgain(t *testing.T) {
	s := enter(t, 3, 1, 1, 1, 1)
	s.decides(0, 0, "ja1", 2, 0, 1)
	s.decides(1, 1, "jb1", 0, 2, 1)
	first := append([]api.Msg{proposal(0, 0, 0, -1, "ja1")}, from(precommit(0, 0, 0, "ja1"), 0, 1, 2)...)
	second := append([]api.Msg{proposal(1, 0, 1, -1, "jb1")}, from(precommit(1, 0, 0, "jb1"), 0, 1, 2)...)
	s.sent()
	s.refusesMsg(prevoteNothing(0, 0, 2), api.ErrPast)
	s.sends("the height 0", first...)
	s.refusesMsg(prevoteNothing(0, 1, 1), api.ErrPast)
	s.sends("once")
	s.refusesMsg(prevoteNothing(1, 0, 2), api.ErrPast)
	s.refusesMsg(prevoteNothing(1, 0, 2), api.ErrPast)
	s.sends("each height for itself", second...)
	s.ticks(1)
	s.sends("not of itself")
	s.refusesMsg(prevoteNothing(1, 0, 2), api.ErrPast)
	s.refusesMsg(prevoteNothing(0, 0, 2), api.ErrPast)
	s.refusesMsg(prevoteNothing(1, 0, 1), api.ErrPast)
	s.sends("again behind a tick", append(second, first...)...)
}

// What is told again is what was kept with the decision: later precommits are past, too.
func TestP7TheCertificateStays(t *testing.T) {
	s := enter(t, 2, 1, 1, 1, 1)
	s.decides(0, 0, "ja1", 0, 1, 3)
	s.sent()
	s.refusesMsg(precommit(0, 0, 2, "ja1"), api.ErrPast)
	s.decided(0, "ja1", from(precommit(0, 0, 0, "ja1"), 0, 1, 3)...)
}

func TestP7Refused(t *testing.T) {
	s := at1(t)
	err := s.node.Receive(s.frame(prevoteNothing(1, 0, 6)))
	var refused *api.Refused
	if !errors.As(err, &refused) || refused.From != 6 || !errors.Is(refused.Why, api.ErrOutsider) {
		t.Errorf("Receive = %#v", err)
	}
	if err := s.node.Receive(s.frame(prevoteNothing(1, 0, 1))); err != nil {
		t.Errorf("Receive = %#v, want nil", err)
	}
}
