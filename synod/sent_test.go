package synod_test

import (
	"slices"
	"testing"

	"synod/api"
)

func TestP8SentOnce(t *testing.T) {
	s := enter(t, 0, 1, 1, 1, 1)
	if got := s.sent(); len(got) != 2 {
		t.Errorf("sent %+v", got)
	}
	for range 3 {
		s.sends("asked again")
	}
	s.takes(prevoteNothing(0, 0, 1), prevoteNothing(0, 0, 2), prevoteNothing(0, 0, 3))
	s.sends("since then", precommitNothing(0, 0, 0))
}

// All that is its own goes out again each fifth tick: in its order, of all rounds of the height.
func TestP8Resend(t *testing.T) {
	s := enter(t, 1, 1, 1, 1, 1)
	s.takes(proposal(0, 0, 0, -1, "ja1"), prevoteNothing(0, 0, 0), prevoteNothing(0, 0, 2), prevoteNothing(0, 0, 3))
	s.takes(precommit(0, 0, 1, "jx1"), prevote(0, 3, 1, "jx1")) // under its id, but not its own
	s.takes(from(precommitNothing(0, 1, 0), 0, 2)...)
	want := []api.Msg{prevote(0, 0, 1, "ja1"), precommitNothing(0, 0, 1), proposal(0, 1, 1, -1, ""), prevote(0, 1, 1, "")}
	s.sends("the first time", want...)
	for range 4 {
		s.ticks(4)
		s.sends("not yet")
		s.ticks(1)
		s.sends("again", want...)
	}
	s.takes(proposal(0, 2, 2, -1, "jc1"))
	s.takes(from(precommit(0, 2, 0, "jc1"), 0, 2, 3)...)
	s.stands("the next height, in which it is the proposer", free(1, 0, api.Voting))
	s.sent()
	s.ticks(5)
	s.sends("of the new height alone", proposal(1, 0, 1, -1, ""), prevote(1, 0, 1, ""))
}

// Behind the timers of the same tick.
func TestP8ResendBehindTimers(t *testing.T) {
	s := enter(t, 3, 1, 1, 1, 1)
	s.ticks(2)
	s.goes(0, 1) // the proposer's time is over at 6
	s.ticks(3)
	s.sends("it has nothing to say yet")
	s.ticks(5)
	s.sends("once at 6, again at 10", prevoteNothing(0, 1, 3), prevoteNothing(0, 1, 3))

	s = enter(t, 3, 1, 1, 1, 1)
	s.ticks(1)
	s.goes(0, 1)
	s.ticks(4)
	s.sends("both at 5", prevoteNothing(0, 1, 3), prevoteNothing(0, 1, 3))
}

func TestP8MaxOut(t *testing.T) {
	s := enter(t, 3, 1, 1, 1, 1)
	s.takes(proposal(0, 0, 0, -1, "ja1"))
	s.takes(from(prevoteNothing(0, 0, 0), 0, 1, 2)...)
	two := []api.Msg{prevote(0, 0, 3, "ja1"), precommitNothing(0, 0, 3)}
	s.ticks(5 * 48) // 98 with the first two
	s.goes(0, 3)    // two more
	s.ticks(1000)
	want := slices.Concat(slices.Repeat(two, 49), []api.Msg{proposal(0, 3, 3, -1, ""), prevote(0, 3, 3, "")})
	if len(want) != api.MaxOut {
		t.Fatal(len(want))
	}
	s.sends("the first of them", want...)
	s.sends("the others are lost")
	s.ticks(5)
	s.sends("room again", append(two, proposal(0, 3, 3, -1, ""), prevote(0, 3, 3, ""))...)
}

// A part of what is put out at once finds room; the rest is lost, and so it stays.
func TestP8MaxOutInTheMiddle(t *testing.T) {
	s := enter(t, 3, 1, 1, 1, 1)
	s.decides(0, 0, "ja1", 0, 1, 2)
	s.takes(proposal(1, 0, 1, -1, "jb1"))
	s.ticks(5 * 97) // 99 of two votes
	s.refusesMsg(prevoteNothing(0, 0, 0), api.ErrPast)
	got := s.sent()
	if len(got) != api.MaxOut || got[98] != prevote(1, 0, 3, "jb1") || got[99] != proposal(0, 0, 0, -1, "ja1") {
		t.Errorf("sent %d: %+v", len(got), got[min(len(got), 97):])
	}
	s.refusesMsg(prevoteNothing(0, 0, 0), api.ErrPast)
	s.sends("it was put out in this tick, though it was lost")
}

func TestP8TimeGoesOnAtEachHeight(t *testing.T) {
	s := enter(t, 3, 1, 1, 1, 1)
	s.ticks(3)
	s.sends("timer 1", prevoteNothing(0, 0, 3))
	s.decides(0, 0, "", 0, 1, 2)
	s.ticks(2) // at 5
	s.sends("nothing of its own at this height")
	s.ticks(1) // at 6
	s.sends("timer 1", prevoteNothing(1, 0, 3))
	s.ticks(4) // at 10
	s.sends("again", prevoteNothing(1, 0, 3))
}
