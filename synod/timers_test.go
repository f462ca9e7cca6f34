package synod_test

import (
	"testing"

	"synod/api"
)

// Timer 1.

func TestP6TimeToPropose(t *testing.T) {
	for _, round := range []int{0, 1, 2, 4, 17, api.MaxRound} {
		s := enter(t, 3, 1, 1, 1, 1)
		if round > 0 {
			s.ticks(1) // it counts from when it begins
			s.goes(0, round)
		}
		s.ticks(2 + round)
		s.stands("not yet", free(0, round, api.Propose))
		s.sends("not yet")
		s.ticks(1)
		s.stands("due", free(0, round, api.Voting))
		if got := s.sent(); len(got) == 0 || got[0] != prevoteNothing(0, round, 3) {
			t.Errorf("round %d: sent %+v", round, got)
		}
	}
}

func TestP6TimeToProposeIsOverWithTheStep(t *testing.T) {
	s := enter(t, 3, 1, 1, 1, 1)
	s.takes(proposal(0, 0, 0, -1, "ja1"))
	s.sends("its vote", prevote(0, 0, 3, "ja1"))
	s.ticks(4)
	s.sends("no other vote")
	s.stands("no other vote", free(0, 0, api.Voting))
}

func TestP6TimersOfAnotherRound(t *testing.T) {
	s := enter(t, 3, 1, 1, 1, 1)
	s.ticks(2)
	s.goes(0, 2)
	s.ticks(4)
	s.sends("timer 1 of the round 0 is due")
	s.stands("timer 1 of the round 0 is due", free(0, 2, api.Propose))
	s.ticks(1)
	s.sends("timer 1 of the round 2 is due", prevoteNothing(0, 2, 3))
}

// Each timer that was begun at the height 0 is due in the same round of the height 1, and does nothing there.
func TestP6TimersOfAnotherHeight(t *testing.T) {
	s := enter(t, 3, 1, 1, 1, 1)
	s.ticks(1)
	s.takes(proposal(0, 0, 0, -1, ""), prevote(0, 0, 0, ""), prevoteNothing(0, 0, 1), precommitNothing(0, 0, 0))
	s.takes(from(precommit(0, 0, 0, ""), 0, 1, 2)...)
	s.stands("the height 1", free(1, 0, api.Propose))
	s.sent()
	s.ticks(2)
	s.stands("all timers of the height 0 were due", free(1, 0, api.Propose))
	s.sends("all timers of the height 0 were due")
	s.ticks(1)
	s.sends("its own", prevoteNothing(1, 0, 3))
}

// Timer 2.

func TestP6TimeToPrevote(t *testing.T) {
	for _, round := range []int{0, 1, 4, 17, api.MaxRound} {
		s := enter(t, 3, 1, 1, 1, 1)
		if round > 0 {
			s.goes(0, round)
		}
		s.takes(proposal(0, round, round%4, -1, "ja1"))
		s.takes(prevoteNothing(0, round, 0))
		s.ticks(1)
		s.takes(prevote(0, round, 1, "x")) // most have voted
		s.ticks(1 + round)
		s.stands("not yet", free(0, round, api.Voting))
		s.takes(prevote(0, round, 2, "y")) // the timer does not begin anew
		s.sent()
		s.ticks(1)
		s.stands("due", free(0, round, api.Closing))
		if got := s.sent(); len(got) == 0 || got[0] != precommitNothing(0, round, 3) {
			t.Errorf("round %d: sent %+v", round, got)
		}
	}
}

func TestP6FewPrevotesBeginNoTimer(t *testing.T) {
	for _, c := range []struct {
		name    string
		genesis []int
		said    []api.Msg
	}{
		{"two of four", []int{1, 1, 1, 1}, []api.Msg{prevoteNothing(0, 0, 0)}},
		{"one twice", []int{1, 1, 1, 1}, []api.Msg{prevoteNothing(0, 0, 0), prevote(0, 0, 0, "x")}},
		{"two thirds", []int{1, 2, 2, 1}, []api.Msg{prevoteNothing(0, 0, 0), prevote(0, 0, 1, "x")}},
		{"precommits", []int{1, 1, 1, 1}, []api.Msg{prevoteNothing(0, 0, 0), precommitNothing(0, 0, 1)}},
		{"of another round", []int{1, 1, 1, 1}, []api.Msg{prevoteNothing(0, 0, 0), prevoteNothing(0, 1, 1)}},
		{"a proposal", []int{1, 1, 1, 1}, []api.Msg{prevoteNothing(0, 0, 1)}},
	} {
		s := enter(t, 3, c.genesis...)
		s.takes(proposal(0, 0, 0, -1, "ja1"))
		s.takes(c.said...)
		s.ticks(30)
		s.stands(c.name, free(0, 0, api.Voting))
	}
}

// In the step 1 the timer 2 does not begin, whatever the others have voted.
func TestP6TimeToPrevoteBeginsWithTheStep(t *testing.T) {
	s := enter(t, 3, 1, 1, 1, 1)
	s.takes(prevoteNothing(0, 0, 0), prevote(0, 0, 1, "x"), prevote(0, 0, 2, "y"))
	s.ticks(2)
	s.stands("no timer 2", free(0, 0, api.Propose))
	s.ticks(1)
	s.sends("timer 1", prevoteNothing(0, 0, 3))
	s.ticks(1)
	s.sends("not yet")
	s.ticks(1)
	s.stands("timer 2, two ticks behind it", free(0, 0, api.Closing))
}

func TestP6TimeToPrevoteIsOverWithTheStep(t *testing.T) {
	s := enter(t, 3, 1, 1, 1, 1)
	s.takes(proposal(0, 0, 0, -1, "ja1"), prevoteNothing(0, 0, 0), prevote(0, 0, 1, "ja1"))
	s.ticks(1)
	s.takes(prevote(0, 0, 2, "ja1"))
	s.sends("locked ahead of time", prevote(0, 0, 3, "ja1"), precommit(0, 0, 3, "ja1"))
	s.ticks(3)
	s.sends("no other precommit")
}

// Timer 3.

func TestP6TimeToPrecommit(t *testing.T) {
	for _, round := range []int{0, 1, 4, 17} {
		for step := api.Propose; step <= api.Voting; step++ {
			s := enter(t, 2, 1, 1, 1, 1)
			if round > 0 {
				s.takes(from(prevoteNothing(0, round, 0), 0, 1)...)
			}
			if step == api.Voting {
				s.takes(proposal(0, round, round%4, -1, "ja1"))
			}
			s.takes(precommitNothing(0, round, 0), precommit(0, round, 1, "x"))
			s.ticks(1)
			s.takes(precommit(0, round, 3, "ja1"))
			s.ticks(1 + round)
			if got := s.node.State().Round; got != round {
				t.Fatalf("round %d: round %d ahead of time", round, got)
			}
			s.takes(precommit(0, round, 1, "ja1")) // the timer does not begin anew
			s.ticks(1)
			want := free(0, round+1, api.Propose)
			if (round+1)%4 == 2 {
				want.Step = api.Voting // it is the proposer
			}
			s.stands("the next round", want)
		}
	}
}

func TestP6FewPrecommitsBeginNoTimer(t *testing.T) {
	for _, c := range []struct {
		name    string
		genesis []int
		said    []api.Msg
	}{
		{"two of four", []int{1, 1, 1, 1}, from(precommitNothing(0, 0, 0), 0, 1)},
		{"one twice", []int{1, 1, 1, 1}, []api.Msg{precommitNothing(0, 0, 0), precommitNothing(0, 0, 1), precommit(0, 0, 0, "x")}},
		{"two thirds", []int{2, 2, 1, 1}, from(precommitNothing(0, 0, 0), 0, 1)},
		{"prevotes", []int{1, 1, 1, 1}, append(from(precommitNothing(0, 0, 0), 0, 1), prevoteNothing(0, 0, 2))},
		{"of another round", []int{1, 1, 1, 1}, append(from(precommitNothing(0, 0, 0), 0, 1), precommitNothing(0, 1, 2))},
	} {
		s := enter(t, 3, c.genesis...)
		s.takes(c.said...)
		s.ticks(30)
		if got := s.node.State().Round; got != 0 {
			t.Errorf("%s: round %d", c.name, got)
		}
	}
}

func TestP6NoRoundAboveTheLast(t *testing.T) {
	s := enter(t, 3, 1, 1, 1, 1)
	s.goes(0, api.MaxRound-1)
	s.takes(precommitNothing(0, api.MaxRound-1, 2))
	s.ticks(2 + api.MaxRound - 1)
	s.stands("the last round", free(0, api.MaxRound, api.Propose))
	s.takes(from(precommitNothing(0, api.MaxRound, 0), 0, 1, 2)...)
	s.ticks(200)
	s.stands("still the last round", free(0, api.MaxRound, api.Voting))
	s.takes(proposal(0, api.MaxRound, 0, -1, "ja1"))
	s.takes(from(precommit(0, api.MaxRound, 0, "ja1"), 0, 1, 2)...)
	s.stands("it decides all the same", free(1, 0, api.Propose))
}

// The next round has timers of its own.
func TestP6TimersOfEachRound(t *testing.T) {
	s := enter(t, 3, 1, 1, 1, 1)
	time := 0
	for round := range 3 {
		s.stands("the round begins", free(0, round, api.Propose))
		s.ticks(3 + round)
		s.stands("timer 1", free(0, round, api.Voting))
		s.takes(prevoteNothing(0, round, 0), prevote(0, round, 1, "x"))
		s.ticks(2 + round)
		s.stands("timer 2", free(0, round, api.Closing))
		s.takes(precommitNothing(0, round, 0), precommit(0, round, 1, "x"))
		s.ticks(2 + round)
		time += 7 + 3*round
	}
	s.stands("its own round", free(0, 3, api.Voting))
	if got := s.sent(); got[0] != prevoteNothing(0, 0, 3) || got[1] != precommitNothing(0, 0, 3) {
		t.Errorf("sent %+v in %d ticks", got, time)
	}
}

// Two timers that are due at once: the one that began first goes first.
func TestP8TimersByWhenTheyBegan(t *testing.T) {
	// Timer 3 began ahead of timer 2: the round is over when that is done.
	s := enter(t, 3, 1, 1, 1, 1)
	s.takes(from(precommitNothing(0, 0, 0), 0, 1, 2)...)
	s.takes(proposal(0, 0, 0, -1, "ja1"), prevoteNothing(0, 0, 0), prevote(0, 0, 1, "x"))
	s.sends("its vote", prevote(0, 0, 3, "ja1"))
	s.ticks(2)
	s.sends("no precommit")
	s.stands("the next round", free(0, 1, api.Propose))

	// Timer 2 began ahead of timer 3: its precommit is sent.
	s = enter(t, 3, 1, 1, 1, 1)
	s.takes(proposal(0, 0, 0, -1, "ja1"), prevoteNothing(0, 0, 0), prevote(0, 0, 1, "x"))
	s.takes(from(precommitNothing(0, 0, 0), 0, 1, 2)...)
	s.ticks(2)
	s.sends("both", prevote(0, 0, 3, "ja1"), precommitNothing(0, 0, 3))
	s.stands("the next round", free(0, 1, api.Propose))

	// Both begin at once, with the height: in the order of the rules.
	s = enter(t, 3, 1, 1, 1, 1)
	s.takes(from(precommitNothing(1, 0, 0), 0, 1, 2)...)
	s.takes(prevoteNothing(1, 0, 0), prevote(1, 0, 1, "x"), proposal(1, 0, 1, -1, "ja1"))
	s.takes(proposal(0, 0, 0, -1, ""))
	s.takes(from(precommit(0, 0, 0, ""), 0, 1, 2)...)
	s.ticks(2)
	s.sends("both", prevote(0, 0, 3, ""), prevote(1, 0, 3, "ja1"), precommitNothing(1, 0, 3))
	s.stands("the next round", free(1, 1, api.Propose))
}

// Timers that are begun in any order come by when they are due.
func TestP8TimersByWhenTheyAreDue(t *testing.T) {
	s := enter(t, 3, 1, 1, 1, 1)
	s.goes(0, 6) // timer 1 is due at 9
	s.takes(proposal(0, 6, 2, -1, "ja1"))
	s.takes(prevoteNothing(0, 6, 0)) // few
	s.ticks(1)
	s.takes(prevote(0, 6, 1, "x"))     // timer 2 is due at 9 as well
	s.takes(precommitNothing(0, 6, 2)) // timer 3, too
	s.ticks(7)                         // 8
	s.stands("not yet", free(0, 6, api.Voting))
	s.sent()
	s.ticks(1)
	s.sends("timer 2, then timer 3", precommitNothing(0, 6, 3), proposal(0, 7, 3, -1, ""), prevote(0, 7, 3, ""))
	s.stands("the next round", free(0, 7, api.Voting))
}
