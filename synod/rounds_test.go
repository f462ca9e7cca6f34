package synod_test

import (
	"testing"

	"synod/api"
)

// locks leads a node with others of the same power to a lock on ja1 in the round 0 (whose proposer is 0).
func (s *scene) locks() {
	s.t.Helper()
	s.takes(proposal(0, 0, 0, -1, "ja1"), prevote(0, 0, 0, "ja1"), prevote(0, 0, 1, "ja1"))
	s.stands("locked", api.State{Step: api.Closing, LockedValue: "ja1", ValidValue: "ja1"})
	s.sent()
}

// goes leads a node to a later round by what 0 and 1 say there.
func (s *scene) goes(height, round int) {
	s.t.Helper()
	s.takes(from(precommitNothing(height, round, 0), 0, 1)...)
	if got := s.node.State(); got.Height != height || got.Round != round {
		s.t.Fatalf("it stands %+v, not in round %d", got, round)
	}
}

// Ids without power are left out of the order.
func TestP6ProposersTakeTurns(t *testing.T) {
	genesis := []int{0, 2, 0, 3, 2, 0}
	order := []int{1, 3, 4}
	for id := range 8 {
		for round := range api.MaxRound + 1 {
			s := enter(t, id, genesis...)
			for _, other := range order {
				if round > 0 && other != id {
					s.takes(precommitNothing(0, round, other))
				}
			}
			want := order[round%3]
			if step := s.node.State().Step; id == want && step != api.Voting || id != want && step != api.Propose {
				t.Errorf("round %d: %d stands at the step %d, the proposer is %d", round, id, step, want)
			}
			for _, other := range order {
				if other != want {
					s.refusesMsg(proposal(0, round, other, -1, "ja1"), api.ErrOutsider)
				}
			}
		}
	}
}

// The order goes on from height to height, among those who have power there.
func TestP6ProposersOfLaterHeights(t *testing.T) {
	s := enter(t, 3, 1, 1, 1, 1)
	for h, c := range []struct {
		proposer, other int
		block           string
	}{{0, 1, ""}, {1, 0, ""}, {2, 0, "v10"}, {0, 2, "v11"}, {0, 1, ""}, {1, 2, "v00,ja1"}, {1, 2, ""}} {
		for id := range 3 {
			if id != c.proposer {
				s.refusesMsg(proposal(h, 0, id, -1, c.block), api.ErrOutsider)
			}
		}
		s.takes(proposal(h, 0, c.proposer, -1, c.block))
		s.takes(from(prevote(h, 0, 0, c.block), c.proposer, c.other)...)
		s.sends("both votes", prevote(h, 0, 3, c.block), precommit(h, 0, 3, c.block))
		s.takes(from(precommit(h, 0, 0, c.block), c.proposer, c.other)...)
		s.stands("the next height", free(h+1, 0, api.Propose))
	}
}

func TestP6TheProposerSendsWhatWaits(t *testing.T) {
	for _, c := range []struct {
		name    string
		waiting []string
		want    string
	}{
		{"nothing", nil, ""},
		{"in their order", []string{"jc3", "ja1", "jb2"}, "jc3,ja1,jb2"},
		{"no more than three", []string{"ja1", "jb1", "jc1", "jd1", "je1"}, "ja1,jb1,jc1"},
		{"those that may not be are left out", []string{"la", "ja1", "ja2", "ra1", "rb1"}, "ja1"},
		{"behind those taken", []string{"ja1", "ra2", "la", "ja1"}, "ja1,ra2,la"},
		{"a role that would be the same behind those taken", []string{"ja1", "ra1", "ra2", "ra2"}, "ja1,ra2"},
		{"one with v", []string{"v02", "v12", "ja1", "v22", "jb1"}, "v02,ja1,jb1"},
		{"the first v that may be", []string{"v01", "v40", "v02", "v03"}, "v02"},
		{"none that may be", []string{"la", "lb", "ra1", "v01", "v50"}, ""},
	} {
		s := enter(t, 3, 1, 1, 1, 1)
		s.submits(c.waiting...)
		s.goes(0, 3)
		s.sends(c.name, proposal(0, 3, 3, -1, c.want), prevote(0, 3, 3, c.want))
	}
}

func TestP6TheProposerSendsWhatIsValid(t *testing.T) {
	s := enter(t, 3, 1, 1, 1, 1)
	s.submits("jz1")
	s.locks()
	s.goes(0, 3)
	s.sends("the valid value, with its round", proposal(0, 3, 3, 0, "ja1"), prevote(0, 3, 3, "ja1"))
	s.stands("it stays locked", api.State{Round: 3, Step: api.Voting, LockedValue: "ja1", ValidValue: "ja1"})
	s.goes(0, 4)
	s.takes(proposal(0, 4, 0, -1, "jb1"), prevote(0, 4, 0, "jb1"), prevote(0, 4, 1, "jb1"), prevote(0, 4, 2, "jb1"))
	s.stands("valid, not locked", api.State{Round: 4, Step: api.Closing, Locked: 4, Valid: 4, LockedValue: "jb1", ValidValue: "jb1"})
}

func TestP6LessThanMostDoesNotLock(t *testing.T) {
	for _, c := range []struct {
		genesis []int
		few     []int // who with the node (the last one) has two thirds at most
		more    int   // who is missing
	}{
		{[]int{1, 1, 1}, []int{0}, 1},
		{[]int{1, 1, 1, 1}, []int{0}, 1},
		{[]int{3, 3, 2, 1}, []int{0, 2}, 1},
		{[]int{1, 1, 5, 2}, []int{0, 1}, 2},
		{[]int{9, 9, 9, 9, 9, 9}, []int{0, 1, 2}, 3},
		{[]int{2, 1, 1, 1, 0, 1}, []int{0, 1}, 3},
		{[]int{1, 1, 1, 1, 1, 1, 1, 1}, []int{0, 1, 2, 3}, 6},
	} {
		last := len(c.genesis) - 1
		s := enter(t, last, c.genesis...)
		s.takes(proposal(0, 0, 0, -1, "ja1"))
		s.takes(from(prevote(0, 0, 0, "ja1"), c.few...)...)
		s.sends("few", prevote(0, 0, last, "ja1"))
		s.stands("few", free(0, 0, api.Voting))
		s.takes(prevote(0, 0, c.more, "ja1"))
		s.sends("most", precommit(0, 0, last, "ja1"))
		s.takes(from(precommit(0, 0, 0, "ja1"), c.few...)...)
		s.undecided(0)
		s.takes(precommit(0, 0, c.more, "ja1"))
		s.stands("decided", free(1, 0, s.node.State().Step))
	}
}
