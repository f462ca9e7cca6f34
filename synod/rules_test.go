package synod_test

import (
	"testing"

	"synod/api"
)

func TestP6Example4(t *testing.T) {
	s := enter(t, 0, 1, 1, 1, 1)
	s.sends("the proposer", proposal(0, 0, 0, -1, ""), prevote(0, 0, 0, ""))
	s.stands("the proposer", free(0, 0, api.Voting))
	s.takes(prevote(0, 0, 2, ""), prevote(0, 0, 1, ""))
	s.sends("locked", precommit(0, 0, 0, ""))
	s.stands("locked", api.State{Step: api.Closing})
	s.takes(precommit(0, 0, 3, ""), precommit(0, 0, 2, ""))
	s.stands("decided", free(1, 0, api.Propose))
	s.decided(0, "", from(precommit(0, 0, 0, ""), 0, 2, 3)...)
}

// Rule 1.

func TestP6DecidesInAnyStepAndRound(t *testing.T) {
	for _, round := range []int{0, 1, 2, 5, api.MaxRound} {
		s := enter(t, 3, 1, 1, 1, 1)
		if round == 0 {
			s.goes(0, 4) // past the round
		}
		proposer := round % 4
		if proposer == 3 {
			t.Fatal("the node itself is no test of this")
		}
		s.takes(precommit(0, round, 0, "ja1"))
		s.takes(proposal(0, round, proposer, -1, "ja1"))
		s.undecided(0)
		s.takes(from(precommit(0, round, 0, "ja1"), 2, 1)...)
		s.decided(0, "ja1", from(precommit(0, round, 0, "ja1"), 0, 1, 2)...)
		s.stands("decided", free(1, 0, api.Propose))
	}
}

func TestP6DecidesWhenTheProposalComesLast(t *testing.T) {
	s := enter(t, 3, 1, 1, 1, 1)
	s.takes(from(precommit(0, 0, 0, "ja1"), 2, 1, 0)...)
	s.undecided(0)
	s.takes(proposal(0, 0, 0, -1, "ja1"))
	s.decided(0, "ja1", from(precommit(0, 0, 0, "ja1"), 0, 1, 2)...)
	s.sends("decided ahead of any vote")
}

func TestP6WhatIsNotDecided(t *testing.T) {
	for _, c := range []struct {
		name string
		said []api.Msg
	}{
		{"a value that is no block", append(from(precommit(0, 0, 0, "x"), 0, 1, 2), proposal(0, 0, 0, -1, "x"))},
		{"a block that is not good", append(from(precommit(0, 0, 0, "la"), 0, 1, 2), proposal(0, 0, 0, -1, "la"))},
		{"precommits for another value", append(from(precommit(0, 0, 0, "jb1"), 0, 1, 2), proposal(0, 0, 0, -1, "ja1"))},
		{"precommits for nothing, a proposal of the empty block", append(from(precommitNothing(0, 0, 0), 0, 1, 2), proposal(0, 0, 0, -1, ""))},
		{"precommits of another round", append(from(precommit(0, 1, 0, "ja1"), 0, 1, 2), proposal(0, 0, 0, -1, "ja1"))},
		{"precommits of two rounds", []api.Msg{proposal(0, 0, 0, -1, "ja1"), precommit(0, 0, 0, "ja1"), precommit(0, 0, 1, "ja1"), precommit(0, 1, 2, "ja1")}},
		{"prevotes", append(from(prevote(0, 0, 0, "ja1"), 0, 1, 2), proposal(0, 0, 0, -1, "ja1"))},
		{"one sender twice", []api.Msg{proposal(0, 0, 0, -1, "ja1"), precommit(0, 0, 0, "ja1"), precommit(0, 0, 1, "ja1"), precommit(0, 0, 1, "jb1")}},
	} {
		s := enter(t, 3, 1, 1, 1, 1)
		s.takes(c.said...)
		if s.node.State().Height != 0 {
			t.Errorf("%s: decided", c.name)
		}
		s.undecided(0)
	}
}

// Those who lie have signed for a block in the round 1 and for another one in the round 2; both are whole at once.
func TestP6DecidesTheLeastRound(t *testing.T) {
	s := enter(t, 3, 1, 1, 1, 1)
	s.takes(precommit(0, 2, 0, "jb1"), precommit(0, 2, 1, "jb1"), precommit(0, 2, 2, "jb1"))
	s.takes(precommit(0, 1, 0, "ja1"), precommit(0, 1, 1, "ja1"), precommit(0, 1, 2, "ja1"))
	s.takes(proposal(0, 0, 0, -1, "jc1"))
	s.undecided(0)
	s.takes(proposal(0, 1, 1, -1, "ja1"))
	s.decided(0, "ja1", from(precommit(0, 1, 0, "ja1"), 0, 1, 2)...)

	// Of the height 1 both are there ahead of time.
	s = enter(t, 3, 1, 1, 1, 1)
	s.takes(proposal(1, 2, 3, -1, "jb1"), proposal(1, 1, 2, -1, "jc1"))
	s.takes(from(precommit(1, 2, 0, "jb1"), 0, 1, 2)...)
	s.takes(from(precommit(1, 1, 0, "jc1"), 0, 1, 2)...)
	s.takes(proposal(0, 0, 0, -1, "ja1"))
	s.takes(from(precommit(0, 0, 0, "ja1"), 0, 1, 2)...)
	s.decided(1, "jc1", from(precommit(1, 1, 0, "jc1"), 0, 1, 2)...)
	s.stands("two heights at once", free(2, 0, api.Propose))
}

// A round that was decided ahead of time goes ahead of a later round that was begun by others.
func TestP6DecidesAheadOfALaterRound(t *testing.T) {
	s := enter(t, 2, 1, 1, 1, 1)
	s.takes(from(precommitNothing(1, 1, 0), 0, 1)...) // 2 would be the proposer
	s.takes(proposal(1, 2, 3, -1, "jb1"))
	s.takes(from(precommit(1, 2, 0, "jb1"), 0, 1, 3)...)
	s.takes(proposal(0, 0, 0, -1, "ja1"))
	s.takes(from(precommit(0, 0, 0, "ja1"), 0, 1, 3)...)
	s.decided(1, "jb1", from(precommit(1, 2, 0, "jb1"), 0, 1, 3)...)
	s.sends("no proposal of the height 1", prevote(0, 0, 2, "ja1"), proposal(2, 0, 2, -1, ""), prevote(2, 0, 2, ""))
}

// Of two proposals of one round the first in the log is decided, where both might be.
func TestP6DecidesTheFirstProposal(t *testing.T) {
	for _, c := range []struct{ first, second, want string }{{"ja1", "jb1", "ja1"}, {"jb1", "ja1", "jb1"}, {"la", "jb1", "jb1"}} {
		s := enter(t, 3, 1, 1, 1, 1)
		s.takes(proposal(1, 0, 1, -1, c.first), proposal(1, 0, 1, -1, c.second))
		s.takes(from(precommit(1, 0, 0, c.second), 0, 1, 2)...)
		s.takes(from(precommit(1, 0, 0, c.first), 0, 1, 2)...)
		s.takes(proposal(0, 0, 0, -1, ""))
		s.takes(from(precommit(0, 0, 0, ""), 0, 1, 2)...)
		s.decided(1, c.want, from(precommit(1, 0, 0, c.want), 0, 1, 2)...)
	}
}

func TestP6KeepsTheFirstProposalOfAValue(t *testing.T) {
	for _, said := range [][]api.Msg{
		{proposal(0, 2, 2, 1, "ja1"), proposal(0, 2, 2, 0, "ja1")},
		{prevoteNothing(0, 2, 0), proposal(0, 0, 0, -1, "ja1"), proposal(0, 2, 2, -1, "jb1"), proposal(0, 2, 2, 1, "ja1")},
	} {
		s := enter(t, 3, 1, 1, 1, 1)
		s.takes(said...)
		s.takes(from(precommit(0, 2, 0, "ja1"), 0, 1, 2)...)
		s.sent()
		s.refusesMsg(precommitNothing(0, 0, 0), api.ErrPast)
		s.sends("the first of the round", append([]api.Msg{proposal(0, 2, 2, 1, "ja1")}, from(precommit(0, 2, 0, "ja1"), 0, 1, 2)...)...)
	}
}

// The certificate has what stands in the log for the block in its round, by rising senders, as often as it stands there.
func TestP6Certificate(t *testing.T) {
	s := enter(t, 2, 2, 2, 2, 2, 1)
	s.takes(precommit(0, 0, 4, "ja1"), precommit(0, 0, 2, "ja1"), precommit(0, 0, 1, "jb1"), precommit(0, 1, 0, "ja1"), precommitNothing(0, 0, 3))
	s.takes(proposal(0, 0, 0, -1, "ja1"), prevote(0, 0, 1, "ja1"), prevote(0, 0, 3, "ja1"), prevote(0, 0, 4, "ja1"))
	s.sends("its own, be it in the log or not", prevote(0, 0, 2, "ja1"), precommit(0, 0, 2, "ja1"))
	s.takes(precommit(0, 0, 3, "ja1"), precommit(0, 0, 1, "ja1"))
	s.decided(0, "ja1", precommit(0, 0, 1, "ja1"), precommit(0, 0, 2, "ja1"), precommit(0, 0, 2, "ja1"), precommit(0, 0, 3, "ja1"), precommit(0, 0, 4, "ja1"))
}

// Rule 2.

func TestP6LaterRound(t *testing.T) {
	for _, c := range []struct {
		name    string
		genesis []int
		said    []api.Msg
		want    int
	}{
		{"two of four", []int{1, 1, 1, 1}, []api.Msg{prevoteNothing(0, 4, 0), precommitNothing(0, 4, 1)}, 4},
		{"a proposal counts", []int{1, 1, 1, 1}, []api.Msg{proposal(0, 5, 1, 3, "x"), prevote(0, 5, 0, "y")}, 5},
		{"one of four", []int{1, 1, 1, 1}, []api.Msg{prevoteNothing(0, 4, 0), precommitNothing(0, 4, 0), proposal(0, 4, 0, -1, "")}, 0},
		{"a third", []int{1, 1, 0, 1}, []api.Msg{prevoteNothing(0, 1, 0)}, 0},
		{"more than a third, one alone", []int{4, 1, 1, 3}, []api.Msg{prevoteNothing(0, 1, 0)}, 1},
		{"a third of nine", []int{3, 1, 1, 4}, []api.Msg{prevoteNothing(0, 1, 0)}, 0},
		{"a third of nine, and one", []int{3, 1, 1, 4}, []api.Msg{prevoteNothing(0, 1, 0), prevoteNothing(0, 1, 1)}, 1},
		{"of several rounds together", []int{1, 1, 1, 1}, []api.Msg{prevoteNothing(0, 4, 0), prevoteNothing(0, 5, 1), prevoteNothing(0, 6, 2)}, 0},
		{"the last round", []int{1, 1, 1, 1}, []api.Msg{prevoteNothing(0, api.MaxRound, 0), prevoteNothing(0, api.MaxRound, 1)}, api.MaxRound},
		{"of its own round", []int{1, 1, 1, 1}, []api.Msg{prevoteNothing(0, 0, 0), precommitNothing(0, 0, 1)}, 0},
		{"then a later one", []int{1, 1, 1, 1}, []api.Msg{prevoteNothing(0, 2, 0), prevoteNothing(0, 2, 1), prevoteNothing(0, 9, 0), prevoteNothing(0, 9, 1)}, 9},
		{"not back", []int{1, 1, 1, 1}, []api.Msg{prevoteNothing(0, 9, 0), prevoteNothing(0, 9, 1), prevoteNothing(0, 2, 0), prevoteNothing(0, 2, 1)}, 9},
	} {
		s := enter(t, 3, c.genesis...)
		s.takes(c.said...)
		if got := s.node.State().Round; got != c.want {
			t.Errorf("%s: round %d, want %d", c.name, got, c.want)
		}
	}
}

// Rounds 6 and 3 are both reached with one message ahead of time: the lesser one begins first, and then the other one.
func TestP6LaterRoundsOneByOne(t *testing.T) {
	s := enter(t, 2, 1, 1, 1, 1)
	s.takes(from(precommitNothing(1, 6, 0), 0, 1)...)
	s.takes(from(precommitNothing(1, 5, 0), 0, 1)...)
	s.takes(from(precommitNothing(1, 1, 0), 0, 1)...)
	s.takes(proposal(0, 0, 0, -1, ""))
	s.takes(from(precommit(0, 0, 0, ""), 0, 1, 3)...)
	s.sends("the votes of the height 0, and it is the proposer of two of these rounds", prevote(0, 0, 2, ""), proposal(1, 1, 2, -1, ""), proposal(1, 5, 2, -1, ""))
	s.stands("the latest", free(1, 6, api.Propose))
}

// Rules 3 and 4.

func TestP6AnswersAProposal(t *testing.T) {
	for _, c := range []struct {
		value string
		want  api.Msg
	}{
		{"", prevote(0, 0, 3, "")},
		{"ja1,v09,la", prevote(0, 0, 3, "ja1,v09,la")},
		{"la", prevoteNothing(0, 0, 3)},
		{"v01", prevoteNothing(0, 0, 3)},
		{"v02,v12", prevoteNothing(0, 0, 3)},
		{"ja1,jb1,jc1,jd1", prevoteNothing(0, 0, 3)},
		{"\x00\xff", prevoteNothing(0, 0, 3)},
		{",", prevoteNothing(0, 0, 3)},
	} {
		s := enter(t, 3, 1, 1, 1, 1)
		s.takes(proposal(0, 0, 0, -1, c.value))
		s.sends(c.value, c.want)
		s.stands(c.value, free(0, 0, api.Voting))
		s.takes(proposal(0, 0, 0, -1, "jz1"))
		s.sends("the second proposal comes too late")
	}
}

// What is good hangs on the blocks that are decided.
func TestP6GoodBehindTheHeightsBelow(t *testing.T) {
	for _, c := range []struct {
		value string
		want  api.Msg
	}{
		{"ja1", prevoteNothing(1, 0, 3)},
		{"la", prevote(1, 0, 3, "la")},
		{"ra1", prevoteNothing(1, 0, 3)},
		{"ra2,v12", prevote(1, 0, 3, "ra2,v12")},
		{"v02", prevoteNothing(1, 0, 3)},
	} {
		s := enter(t, 3, 1, 1, 1, 1)
		s.takes(proposal(0, 0, 0, -1, "ja1,v02"))
		s.takes(from(precommit(0, 0, 0, "ja1,v02"), 0, 1, 2)...)
		s.sent()
		s.takes(proposal(1, 0, 1, -1, c.value))
		s.sends(c.value, c.want)
	}
}

// All of it is there ahead of time when the round 4 of the height 1 begins, whose proposer is 1.
func TestP6AnswersTheFirstProposal(t *testing.T) {
	oldA := from(prevote(1, 2, 0, "ja1"), 0, 1, 2)
	oldB := from(prevote(1, 3, 0, "jb1"), 0, 1, 2)
	for _, c := range []struct {
		name      string
		proposals []api.Msg
		want      api.Msg
	}{
		{"two new ones", []api.Msg{proposal(1, 4, 1, -1, "jb1"), proposal(1, 4, 1, -1, "ja1")}, prevote(1, 4, 3, "jb1")},
		{"the first is not good", []api.Msg{proposal(1, 4, 1, -1, "la"), proposal(1, 4, 1, -1, "ja1")}, prevoteNothing(1, 4, 3)},
		{"a new one goes ahead of one with a valid round", []api.Msg{proposal(1, 4, 1, 2, "ja1"), proposal(1, 4, 1, -1, "jb1")}, prevote(1, 4, 3, "jb1")},
		{"the first that has its votes", []api.Msg{proposal(1, 4, 1, 2, "jb1"), proposal(1, 4, 1, 2, "ja1")}, prevote(1, 4, 3, "ja1")},
		{"two with votes", []api.Msg{proposal(1, 4, 1, 3, "jb1"), proposal(1, 4, 1, 2, "ja1")}, prevote(1, 4, 3, "jb1")},
	} {
		s := enter(t, 3, 1, 1, 1, 1)
		s.takes(oldA...)
		s.takes(oldB...)
		s.takes(c.proposals...)
		s.takes(from(precommitNothing(1, 4, 0), 0, 1)...)
		s.takes(proposal(0, 0, 0, -1, ""))
		s.sent()
		s.takes(from(precommit(0, 0, 0, ""), 0, 1, 2)...)
		if got := s.sent(); len(got) == 0 || got[len(got)-1] != c.want {
			t.Errorf("%s: sent %+v, want %+v last", c.name, got, c.want)
		}
	}
}

// What comes in under the node's own id stands in the log like all else: ahead of what it sends itself later.
func TestP6ItsOwnIdInTheLog(t *testing.T) {
	s := enter(t, 3, 1, 1, 1, 1)
	s.takes(proposal(0, 3, 3, -1, "jy1"), proposal(0, 3, 3, -1, "jz1"))
	s.submits("ja1")
	s.goes(0, 3)
	s.sends("its own, whatever is in the log; its vote is for the first", proposal(0, 3, 3, -1, "ja1"), prevote(0, 3, 3, "jy1"))
	s.takes(prevote(0, 3, 3, "ja1"))
	s.takes(from(prevote(0, 3, 0, "ja1"), 1, 2)...)
	s.sends("it counts as its vote", precommit(0, 3, 3, "ja1"))
}

// A lock on ja1 in the round 0; what is proposed in a later round with no valid round.
func TestP6LockAgainstNewProposals(t *testing.T) {
	for _, c := range []struct {
		value string
		want  api.Msg
	}{{"jb1", prevoteNothing(0, 1, 3)}, {"", prevoteNothing(0, 1, 3)}, {"ja1", prevote(0, 1, 3, "ja1")}, {"x", prevoteNothing(0, 1, 3)}} {
		s := enter(t, 3, 1, 1, 1, 1)
		s.locks()
		s.goes(0, 1)
		s.takes(proposal(0, 1, 1, -1, c.value))
		s.sends(c.value, c.want)
		s.stands(c.value, api.State{Round: 1, Step: api.Voting, LockedValue: "ja1", ValidValue: "ja1"})
	}
}

// relocks leads a node from a lock on ja1 in the round 0 to one on jb1 in the round 2.
func (s *scene) relocks() {
	s.t.Helper()
	s.locks()
	s.takes(from(prevote(0, 1, 0, "jb1"), 0, 1, 2)...)
	s.goes(0, 2)
	s.takes(proposal(0, 2, 2, 1, "jb1"), prevote(0, 2, 0, "jb1"), prevote(0, 2, 1, "jb1"))
	s.sends("locked anew", prevote(0, 2, 3, "jb1"), precommit(0, 2, 3, "jb1"))
	s.stands("locked anew", api.State{Round: 2, Step: api.Closing, Locked: 2, Valid: 2, LockedValue: "jb1", ValidValue: "jb1"})
}

func TestP6LockAgainstValidRounds(t *testing.T) {
	for _, c := range []struct {
		name  string
		votes []api.Msg
		valid int
		value string
		want  []api.Msg
	}{
		{"below the lock, another value", from(prevote(0, 1, 0, "jc1"), 0, 1, 2), 1, "jc1", []api.Msg{prevoteNothing(0, 5, 3)}},
		{"below the lock, its value", nil, 1, "jb1", []api.Msg{prevote(0, 5, 3, "jb1")}},
		{"of the lock's round, another value", from(prevote(0, 2, 0, "jc1"), 0, 1, 2), 2, "jc1", []api.Msg{prevote(0, 5, 3, "jc1")}},
		{"above the lock, another value", from(prevote(0, 4, 0, "jc1"), 0, 1, 2), 4, "jc1", []api.Msg{prevote(0, 5, 3, "jc1")}},
		{"above the lock, its value", from(prevote(0, 4, 0, "jb1"), 0, 1, 2), 4, "jb1", []api.Msg{prevote(0, 5, 3, "jb1")}},
		{"above the lock, not good", from(prevote(0, 4, 0, "la"), 0, 1, 2), 4, "la", []api.Msg{prevoteNothing(0, 5, 3)}},
		{"too few votes", from(prevote(0, 4, 0, "jc1"), 0, 1), 4, "jc1", nil},
		{"votes of another round", from(prevote(0, 3, 0, "jc1"), 0, 1, 2), 4, "jc1", nil},
		{"votes for another value", from(prevote(0, 4, 0, "jd1"), 0, 1, 2), 4, "jc1", nil},
		{"votes for nothing", from(prevoteNothing(0, 4, 0), 0, 1, 2), 4, "", nil},
		{"precommits", from(precommit(0, 4, 0, "jc1"), 0, 1, 2), 4, "jc1", nil},
	} {
		s := enter(t, 3, 1, 1, 1, 1)
		s.relocks()
		s.goes(0, 5)
		s.sent()
		s.takes(c.votes...)
		s.takes(proposal(0, 5, 1, c.valid, c.value))
		s.sends(c.name, c.want...)
		step := api.Voting
		if c.want == nil {
			step = api.Propose
		}
		s.stands(c.name, api.State{Round: 5, Step: step, Locked: 2, Valid: 2, LockedValue: "jb1", ValidValue: "jb1"})
	}
}

// One that is not locked takes a value with a valid round, as soon as that has its votes.
func TestP6ValidRoundWithoutLock(t *testing.T) {
	s := enter(t, 3, 1, 1, 1, 1)
	s.goes(0, 2)
	s.takes(proposal(0, 2, 2, 0, "ja1"))
	s.takes(from(prevote(0, 0, 0, "ja1"), 0, 2)...)
	s.sends("few")
	s.takes(prevote(0, 0, 1, "ja1"))
	s.sends("most", prevote(0, 2, 3, "ja1"))
	s.stands("most", free(0, 2, api.Voting))
}

// Rule 5.

func TestP6ValidWithoutLock(t *testing.T) {
	s := enter(t, 3, 1, 1, 1, 1)
	s.takes(proposal(0, 0, 0, -1, "ja1"), prevote(0, 0, 0, "ja1"), prevoteNothing(0, 0, 1))
	s.ticks(2)
	s.sends("its time was over", prevote(0, 0, 3, "ja1"), precommitNothing(0, 0, 3))
	s.takes(prevote(0, 0, 2, "ja1"))
	s.sends("too late to lock")
	s.stands("valid alone", api.State{Step: api.Closing, Locked: -1, Valid: 0, ValidValue: "ja1"})
	s.goes(0, 1)
	s.takes(proposal(0, 1, 1, -1, "jb1"))
	s.sends("valid does not bind its votes", prevote(0, 1, 3, "jb1"))
	s.goes(0, 3)
	s.sends("valid binds what it proposes", proposal(0, 3, 3, 0, "ja1"), prevote(0, 3, 3, "ja1"))
}

// Votes for a proposal that it has not answered yet do not lock it, but do so once it has voted.
func TestP6NoLockAheadOfAVote(t *testing.T) {
	s := enter(t, 3, 1, 1, 1, 1)
	s.goes(0, 2)
	s.takes(proposal(0, 2, 2, 1, "ja1"))
	s.takes(from(prevote(0, 2, 0, "ja1"), 0, 1, 2)...)
	s.stands("it has not voted", free(0, 2, api.Propose))
	s.ticks(5)
	s.sends("both votes, and both again", prevoteNothing(0, 2, 3), precommit(0, 2, 3, "ja1"), prevoteNothing(0, 2, 3), precommit(0, 2, 3, "ja1"))
	s.stands("locked", api.State{Round: 2, Step: api.Closing, Locked: 2, Valid: 2, LockedValue: "ja1", ValidValue: "ja1"})
}

func TestP6WhatDoesNotLock(t *testing.T) {
	for _, c := range []struct {
		name string
		said []api.Msg
	}{
		{"no proposal", from(prevote(0, 1, 0, "jb1"), 0, 1, 2)},
		{"not good", append(from(prevote(0, 1, 0, "la"), 0, 1, 2), proposal(0, 1, 1, -1, "la"))},
		{"another value", append(from(prevote(0, 1, 0, "jb1"), 0, 1), proposal(0, 1, 1, -1, "ja1"))},
		{"one sender twice", []api.Msg{prevote(0, 1, 0, "ja1"), prevote(0, 1, 0, "jb1"), proposal(0, 1, 1, -1, "ja1")}},
		{"votes of another round", append(from(prevote(0, 2, 0, "ja1"), 0), append(from(prevote(0, 0, 0, "ja1"), 1, 2), proposal(0, 1, 1, -1, "ja1"))...)},
		{"precommits", append(from(precommit(0, 1, 0, "ja1"), 0, 1), proposal(0, 1, 1, -1, "ja1"))},
		{"nothing is not the empty block", []api.Msg{prevoteNothing(0, 1, 0), prevoteNothing(0, 1, 1), proposal(0, 1, 1, -1, "")}},
	} {
		s := enter(t, 3, 1, 1, 1, 1)
		s.goes(0, 1)
		s.takes(c.said...)
		if got := s.node.State(); got.Locked != -1 || got.Valid != -1 || got.LockedValue != "" || got.ValidValue != "" || got.Round != 1 {
			t.Errorf("%s: stands %+v", c.name, got)
		}
	}
}

// Those who lie vote twice: what is valid in a round stays.
func TestP6ValidOnceARound(t *testing.T) {
	s := enter(t, 3, 1, 1, 1, 1)
	s.locks()
	s.takes(proposal(0, 0, 0, -1, "jb1"))
	s.takes(from(prevote(0, 0, 0, "jb1"), 0, 1, 2)...)
	s.stands("as it was", api.State{Step: api.Closing, LockedValue: "ja1", ValidValue: "ja1"})
	s.sends("nothing more")
	s.goes(0, 1)
	s.takes(proposal(0, 1, 1, 0, "jb1"))
	s.takes(from(prevote(0, 1, 0, "jb1"), 0, 1)...)
	s.stands("in another round", api.State{Round: 1, Step: api.Closing, Locked: 1, Valid: 1, LockedValue: "jb1", ValidValue: "jb1"})
}

// Of two proposals with their votes the first one in the log is locked on.
func TestP6LocksOnTheFirstProposal(t *testing.T) {
	for _, c := range []struct{ first, second, want string }{{"ja1", "jb1", "ja1"}, {"jb1", "ja1", "jb1"}, {"x", "ja1", "ja1"}} {
		s := enter(t, 3, 1, 1, 1, 1)
		s.goes(0, 2)
		s.takes(proposal(0, 2, 2, 0, c.first), proposal(0, 2, 2, 1, c.second))
		s.takes(from(prevote(0, 2, 0, c.second), 0, 1, 2)...)
		s.takes(from(prevote(0, 2, 0, c.first), 0, 1, 2)...)
		s.ticks(5)
		s.stands(c.first, api.State{Round: 2, Step: api.Closing, Locked: 2, Valid: 2, LockedValue: c.want, ValidValue: c.want})
	}
}

// Rule 6.

func TestP6MostForNothing(t *testing.T) {
	s := enter(t, 3, 1, 1, 1, 1)
	s.takes(from(prevoteNothing(0, 0, 0), 0, 1, 2)...)
	s.stands("it has not voted", free(0, 0, api.Propose))
	s.sends("it has not voted")
	s.takes(proposal(0, 0, 0, -1, "ja1"))
	s.sends("now it has", prevote(0, 0, 3, "ja1"), precommitNothing(0, 0, 3))
	s.stands("at once", free(0, 0, api.Closing))
}

// Those who lie have voted for both: the value goes ahead.
func TestP6MostForBoth(t *testing.T) {
	s := enter(t, 3, 1, 1, 1, 1)
	s.takes(from(prevoteNothing(0, 0, 0), 0, 1, 2)...)
	s.takes(from(prevote(0, 0, 0, "ja1"), 0, 1, 2)...)
	s.takes(proposal(0, 0, 0, -1, "ja1"))
	s.sends("both", prevote(0, 0, 3, "ja1"), precommit(0, 0, 3, "ja1"))
}

func TestP6FewForNothing(t *testing.T) {
	for _, c := range []struct {
		name    string
		genesis []int
		said    []api.Msg
		more    []api.Msg // that brings most together
	}{
		{"of four", []int{1, 1, 1, 1}, from(prevoteNothing(0, 0, 0), 0, 1), from(prevoteNothing(0, 0, 0), 2)},
		{"two thirds", []int{1, 2, 2, 1}, from(prevoteNothing(0, 0, 0), 1, 2), from(prevoteNothing(0, 0, 0), 0)},
		{"one twice", []int{1, 1, 1, 1}, []api.Msg{prevoteNothing(0, 0, 0), prevoteNothing(0, 0, 1), prevote(0, 0, 1, ""), prevote(0, 0, 2, "")}, from(prevoteNothing(0, 0, 0), 2)},
		{"of another round", []int{1, 1, 1, 1}, append(from(prevoteNothing(0, 0, 0), 0, 1), prevoteNothing(0, 1, 2)), from(prevoteNothing(0, 0, 0), 2)},
		{"precommits", []int{1, 1, 1, 1}, append(from(prevoteNothing(0, 0, 0), 0, 1), precommitNothing(0, 0, 2)), from(prevoteNothing(0, 0, 0), 2)},
	} {
		s := enter(t, 3, c.genesis...)
		s.takes(proposal(0, 0, 0, -1, "ja1"))
		s.takes(c.said...)
		s.sends(c.name, prevote(0, 0, 3, "ja1"))
		s.takes(c.more...)
		s.sends(c.name+", and more", precommitNothing(0, 0, 3))
		s.stands(c.name, free(0, 0, api.Closing))
	}
}

// A lock outlives votes for nothing.
func TestP6NothingLeavesTheLock(t *testing.T) {
	s := enter(t, 3, 1, 1, 1, 1)
	s.locks()
	s.goes(0, 1)
	s.takes(proposal(0, 1, 1, -1, "jb1"))
	s.takes(from(prevoteNothing(0, 1, 0), 0, 1)...)
	s.sends("nothing", prevoteNothing(0, 1, 3), precommitNothing(0, 1, 3))
	s.stands("nothing", api.State{Round: 1, Step: api.Closing, LockedValue: "ja1", ValidValue: "ja1"})
}
