package synod_test

import (
	"slices"
	"testing"

	"synod/api"
	"synod/synod"
)

// decides leads a node to decide a block in the round 0, by what three others of four say.
func (s *scene) decides(height, proposer int, block string, others ...int) {
	s.t.Helper()
	s.takes(proposal(height, 0, proposer, -1, block))
	s.takes(from(precommit(height, 0, 0, block), others...)...)
	if got := s.node.State().Height; got != height+1 {
		s.t.Fatalf("the height is %d, want %d", got, height+1)
	}
}

func TestP6TheRegistryGoesOn(t *testing.T) {
	s := enter(t, 3, 1, 1, 1, 1)
	s.decides(0, 0, "jb2,ja1,v09", 0, 1, 2)
	if got := say(s.node.Registry()); got != "91110000 ab 12" {
		t.Errorf("Registry = %s", got)
	}
	s.takes(proposal(1, 0, 1, -1, "lb,v20"))
	s.takes(precommit(1, 0, 1, "lb,v20"), precommit(1, 0, 2, "lb,v20"))
	s.undecided(1)
	s.takes(precommit(1, 0, 0, "lb,v20")) // nine of twelve
	s.decided(1, "lb,v20", from(precommit(1, 0, 0, "lb,v20"), 0, 1, 2)...)
	if got := say(s.node.Registry()); got != "91010000 a 1" {
		t.Errorf("Registry = %s", got)
	}
	s.refusesMsg(prevoteNothing(2, 0, 2), api.ErrOutsider)
	s.takes(prevoteNothing(2, 5, 0)) // more than a third now
	s.stands("0 alone is enough", free(2, 5, api.Propose))
}

func TestP6NothingIsLockedAtTheNextHeight(t *testing.T) {
	s := enter(t, 3, 1, 1, 1, 1)
	s.locks()
	s.takes(from(precommit(0, 0, 0, "ja1"), 0, 1)...)
	s.decided(0, "ja1", from(precommit(0, 0, 0, "ja1"), 0, 1, 3)...)
	s.stands("free", free(1, 0, api.Propose))
	s.takes(proposal(1, 0, 1, -1, "jb1"))
	s.sends("it may vote for anything", prevote(1, 0, 3, "jb1"))
}

// Of the records that wait those of the block go, each once.
func TestP6RecordsGo(t *testing.T) {
	for _, c := range []struct {
		name    string
		waiting []string
		block   string
		want    string // what is proposed at the next height
	}{
		{"all", []string{"ja1", "jb1"}, "jb1,ja1", ""},
		{"none", []string{"ja1", "jb1"}, "", "ja1,jb1"},
		{"some", []string{"ja1", "jb1", "jc1"}, "jb1,jd1", "ja1,jc1"},
		{"others of the same name", []string{"ja2", "la", "jb1"}, "ja1", "la,jb1"},
		{"one of two that are the same", []string{"la", "ja1", "la"}, "ja1,v02", "la"},
		{"one of two that are the same, in its turn", []string{"ja1", "la", "ja1"}, "ja1,la", "ja1"},
		{"two of three that are the same", []string{"la", "la", "ja1", "la", "v02"}, "ja1,la", "v02"},
	} {
		s := enter(t, 1, 1, 1, 1, 1)
		s.submits(c.waiting...)
		s.takes(proposal(0, 0, 0, -1, c.block))
		s.sent()
		s.takes(from(precommit(0, 0, 0, c.block), 0, 2, 3)...)
		s.sends(c.name, proposal(1, 0, 1, -1, c.want), prevote(1, 0, 1, c.want))
	}
}

// What of twice the same was decided once waits on: it is proposed when it may be again.
func TestP6RecordsThatWaitTwice(t *testing.T) {
	s := enter(t, 2, 1, 1, 1, 1)
	s.submits("ja1", "ja1", "ja1")
	s.decides(0, 0, "ja1", 0, 1, 3)
	s.decides(1, 1, "la", 0, 1, 3)
	s.sends("the second one", prevote(0, 0, 2, "ja1"), prevote(1, 0, 2, "la"), proposal(2, 0, 2, -1, "ja1"), prevote(2, 0, 2, "ja1"))
	s.submits("jb1", "jc1", "jd1")
	if err := s.node.Submit("je1"); !only(err, api.ErrFull) {
		t.Errorf("Submit = %v: of three one has gone", err)
	}
}

// A proposal that is only taken, not decided, lets no record go.
func TestP6RecordsStayTillTheyAreDecided(t *testing.T) {
	s := enter(t, 1, 1, 1, 1, 1)
	s.submits("ja1")
	s.takes(proposal(0, 0, 0, -1, "ja1"))
	s.sent()
	s.takes(from(precommitNothing(0, 1, 0), 0, 2)...)
	s.sends("it proposes it itself", proposal(0, 1, 1, -1, "ja1"), prevote(0, 1, 1, "ja1"))
	s.takes(from(precommitNothing(0, 5, 0), 0, 2)...)
	s.sends("and again", proposal(0, 5, 1, -1, "ja1"), prevote(0, 5, 1, "ja1"))
}

func TestP6TakenAheadOfTime(t *testing.T) {
	s := enter(t, 3, 1, 1, 1, 1)
	s.takes(proposal(1, 0, 1, -1, "jb1"))
	s.takes(from(prevote(1, 0, 0, "jb1"), 0, 1)...)
	s.takes(precommit(1, 0, 0, "jb1"))
	s.stands("it does nothing yet", free(0, 0, api.Propose))
	s.decides(0, 0, "ja1", 0, 1, 2)
	s.sends("it goes on at once", prevote(0, 0, 3, "ja1"), prevote(1, 0, 3, "jb1"), precommit(1, 0, 3, "jb1"))
	s.stands("it goes on at once", api.State{Height: 1, Step: api.Closing, LockedValue: "jb1", ValidValue: "jb1"})
	s.takes(precommit(1, 0, 2, "jb1"))
	s.decided(1, "jb1", from(precommit(1, 0, 0, "jb1"), 0, 2, 3)...)
	s.stands("the height 2 has none of it", free(2, 0, api.Propose))
}

// They stand in the log ahead of what the node sends itself when the height begins.
func TestP6TakenAheadOfItsOwn(t *testing.T) {
	s := enter(t, 1, 1, 1, 1, 1)
	s.takes(proposal(1, 0, 1, -1, "jy1"), proposal(1, 0, 1, -1, "jz1"))
	s.decides(0, 0, "", 0, 2, 3)
	s.sends("its vote is for the first", prevote(0, 0, 1, ""), proposal(1, 0, 1, -1, ""), prevote(1, 0, 1, "jy1"))
}

// With the block 1 loses its power: in the round 0 of the height 1 it is the turn of 2, in the round 1 that of 3.
func TestP6OutsidersTakenAheadOfTime(t *testing.T) {
	s := enter(t, 3, 1, 1, 1, 1)
	s.takes(proposal(1, 0, 1, -1, "jb1"), proposal(1, 0, 2, -1, "jc1"), proposal(1, 1, 2, -1, "jd1"))
	s.takes(from(prevote(1, 2, 0, "x"), 1, 5, 7)...)
	s.decides(0, 0, "v10", 0, 1, 2)
	s.sends("of 0, 2, 3 it is the turn of 2", prevote(0, 0, 3, "v10"), prevote(1, 0, 3, "jc1"))
	s.stands("1, 5 and 7 have no say", free(1, 0, api.Voting))
	s.refusesMsg(proposal(1, 0, 2, -1, "jc1"), api.ErrKnown)
	s.refusesMsg(proposal(1, 0, 1, -1, "jb1"), api.ErrOutsider)
	s.refusesMsg(proposal(1, 1, 2, -1, "jd1"), api.ErrOutsider)
	s.refusesMsg(prevote(1, 2, 1, "x"), api.ErrOutsider)
}

// A proposal that turns out to be from no proposer is not in the log, neither as one to answer nor as a message of its sender.
func TestP6NoProposerAheadOfTime(t *testing.T) {
	s := enter(t, 3, 1, 1, 1, 1)
	s.takes(proposal(1, 2, 2, -1, "jd1"), proposal(1, 5, 2, -1, "je1"))
	s.decides(0, 0, "v10", 0, 1, 2) // of 0, 2, 3 it is the turn of 0 in the rounds 2 and 5
	s.takes(prevoteNothing(1, 5, 0))
	s.stands("a third is not enough", free(1, 0, api.Propose))
	s.takes(from(precommitNothing(1, 2, 0), 0, 2)...)
	s.stands("it waits for the proposer", free(1, 2, api.Propose))
	s.sent()
	s.takes(proposal(1, 2, 0, -1, "jf1"))
	s.sends("the proposer", prevote(1, 2, 3, "jf1"))
}

func TestP6PowerComesAheadOfTime(t *testing.T) {
	s := enter(t, 3, 1, 1, 1, 1)
	s.takes(prevoteNothing(1, 4, 5))
	s.decides(0, 0, "v59", 0, 1, 2)
	s.stands("5 has most of the power now", free(1, 4, api.Propose))
}

func TestP6OneLosesItsPower(t *testing.T) {
	s := enter(t, 1, 1, 1, 1, 1)
	s.decides(0, 0, "v10", 0, 2, 3)
	s.sends("it had its say", prevote(0, 0, 1, "v10"))
	s.takes(proposal(1, 0, 2, -1, "v11"))
	s.stands("it goes on as if it had voted", free(1, 0, api.Voting))
	s.takes(from(prevote(1, 0, 0, "v11"), 0, 2, 3)...)
	s.stands("and as if it had closed", api.State{Height: 1, Step: api.Closing, LockedValue: "v11", ValidValue: "v11"})
	s.ticks(1)
	s.takes(from(precommit(1, 0, 0, "v11"), 3, 2, 0)...)
	s.decided(1, "v11", from(precommit(1, 0, 0, "v11"), 0, 2, 3)...)
	s.sends("it said nothing")
	s.takes(proposal(2, 0, 2, -1, ""))
	s.sends("it has its say again", prevote(2, 0, 1, ""))
}

func TestP6OneComesByPower(t *testing.T) {
	s := enter(t, 5, 1, 1, 1, 1)
	s.ticks(3)
	s.stands("timers go on without power", free(0, 0, api.Voting))
	s.takes(from(prevoteNothing(0, 0, 0), 0, 1, 2)...)
	s.stands("rule 6 does, too", free(0, 0, api.Closing))
	s.decides(0, 0, "v51", 0, 1, 2)
	s.ticks(3)
	s.sends("its first vote", prevoteNothing(1, 0, 5))
}

// The step is over for one without power, as if it had said so; its own vote counts for nothing.
func TestP6WithoutPowerItDoesNotCount(t *testing.T) {
	s := enter(t, 3, 1, 1, 1)
	s.takes(proposal(0, 0, 0, -1, "ja1"), prevote(0, 0, 0, "ja1"), prevote(0, 0, 1, "ja1"))
	s.stands("two of three", free(0, 0, api.Voting))
	s.takes(prevote(0, 0, 2, "ja1"))
	s.stands("three of three", api.State{Step: api.Closing, LockedValue: "ja1", ValidValue: "ja1"})
	s.ticks(50)
	s.sends("nothing")
}

func TestP6AtMaxHeight(t *testing.T) {
	s := enter(t, 3, 1, 1, 1, 1)
	s.submits("jz1")
	for h := range api.MaxHeight {
		if h%4 == 3 {
			s.takes(from(precommit(h, 0, 0, ""), 0, 1, 2)...) // the node has proposed jz1: they would not
			s.undecided(h)
			s.takes(proposal(h, 1, 0, -1, ""))
			s.takes(from(precommit(h, 1, 0, ""), 0, 1, 2)...)
			continue
		}
		s.decides(h, h%4, "", 0, 1, 2)
	}
	s.stands("at the end", free(api.MaxHeight, 0, 0))
	s.sent()
	s.ticks(100)
	s.sends("at the end")
	s.stands("at the end", free(api.MaxHeight, 0, 0))
	for range 2 { // those who are late are told once a tick, as ever
		for h := range api.MaxHeight {
			s.refusesMsg(prevoteNothing(h, 0, 7), api.ErrPast)
			if got := s.sent(); len(got) != 4 || got[0].Kind != api.Proposal {
				t.Errorf("the height %d is told as %+v", h, got)
			}
			s.refusesMsg(prevoteNothing(h, 0, 7), api.ErrPast)
			s.sends("once")
		}
		s.ticks(1)
	}
	s.undecided(api.MaxHeight)
	s.refuses("\x02\x0c\x00\x00\x00\x00", -1, api.ErrForm)
}

// Blocks lead to the registry that Fold tells.
func TestP9RegistryIsFolded(t *testing.T) {
	genesis := []int{1, 1, 1, 1}
	s := enter(t, 3, genesis...)
	blocks := []string{"ja1,jb2,v02", "la,v01", "rb3,jz9,lb"}
	for h, block := range blocks {
		want, _ := synod.Fold(genesis, blocks[:h])
		if got := s.node.Registry(); say(got) != say(want) || len(got.Powers) != api.MaxIds {
			t.Errorf("Registry = %s, want %s", say(got), say(want))
		}
		s.decides(h, h, block, 0, 1, 2)
	}
	for h, block := range blocks {
		s.decided(h, block, from(precommit(h, 0, 0, block), 0, 1, 2)...)
	}
	if got := s.node.Registry(); got.Names != "z" || !slices.Equal(got.Roles, []int{9}) {
		t.Errorf("Registry = %+v", got)
	}
}

func TestP9DecidedNothing(t *testing.T) {
	s := enter(t, 3, 1, 1, 1, 1)
	s.decides(0, 0, "ja1", 0, 1, 2)
	for _, h := range []int{-1 << 63, -12, -1, 1, 2, api.MaxHeight, 1<<63 - 1} {
		s.undecided(h)
	}
}
