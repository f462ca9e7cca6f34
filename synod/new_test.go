package synod_test

import (
	"testing"

	"synod/api"
	"synod/ring"
	"synod/synod"
)

func TestP5Genesis(t *testing.T) {
	_, keys := ring.New(9)
	for _, genesis := range [][]int{nil, {}, {0}, powers(), {-1, 2}, {10}, {1, 10}, {1, 0, 0, 0, 0, 0, 0, 0, 0}, make([]int, 100)} {
		for _, key := range keys {
			if n, err := synod.New(key, genesis); n != nil || !only(err, api.ErrArg) {
				t.Errorf("New(%d, %v) = %v, %v, want ErrArg alone", key.Id(), genesis, n, err)
			}
		}
	}
	for _, genesis := range [][]int{{1}, {0, 1}, {9, 9, 9, 9, 9, 9, 9, 9}, powers(0, 0, 3)} {
		for _, key := range keys {
			node(t, key, genesis...)
		}
	}
}

func TestP5BeginsRound0(t *testing.T) {
	for id := range 10 {
		s := enter(t, id, 1, 1, 1, 1)
		s.undecided(0)
		if id == 0 {
			s.stands("the proposer", free(0, 0, api.Voting))
			s.sends("the proposer", proposal(0, 0, 0, -1, ""), prevote(0, 0, 0, ""))
		} else {
			s.stands("another one", free(0, 0, api.Propose))
			s.sends("another one")
		}
	}
}

func TestP5OneAlone(t *testing.T) {
	s := enter(t, 0, 3)
	s.stands("one alone", free(api.MaxHeight, 0, 0))
	var want []api.Msg
	for h := range api.MaxHeight {
		want = append(want, proposal(h, 0, 0, -1, ""), prevote(h, 0, 0, ""), precommit(h, 0, 0, ""))
		s.decided(h, "", precommit(h, 0, 0, ""))
	}
	s.sends("one alone", want...)
	s.undecided(api.MaxHeight)
}

// Ids that no frame can name look on: they take part in nothing, and decide all the same.
func TestP5IdsAboveLookOn(t *testing.T) {
	for _, id := range []int{8, 9} {
		s := enter(t, id, 1, 1, 1, 1, 1, 1, 1, 1)
		s.takes(proposal(0, 0, 0, -1, "ja1"))
		s.stands("it goes on as if it had voted", free(0, 0, api.Voting))
		s.takes(from(prevote(0, 0, 0, "ja1"), 0, 1, 2, 3, 4, 5)...)
		s.stands("it is locked", api.State{Step: api.Closing, LockedValue: "ja1", ValidValue: "ja1"})
		certificate := from(precommit(0, 0, 0, "ja1"), 0, 1, 2, 3, 4, 5)
		s.takes(certificate...)
		s.decided(0, "ja1", certificate...)
		s.stands("the next height", free(1, 0, api.Propose))
		s.ticks(100)
		s.sends("it says nothing")
	}
}

func TestP5SubmitForm(t *testing.T) {
	s := enter(t, 1, 1, 1, 1, 1)
	for _, text := range []string{"", "x", "j", "ja", "ja0", "jA1", "ja10", "j1a", "l", "la1", "lA", "ra", "ra0", "v", "v1", "v8", "v80", "v-1", "v010", "ja1,jb1", "ja1,", " ja1", "ja1\x00", "\xff"} {
		if err := s.node.Submit(text); !only(err, api.ErrRecord) {
			t.Errorf("Submit(%q) = %v, want ErrRecord", text, err)
		}
	}
	s.takes(from(precommitNothing(0, 1, 0), 0, 2)...)
	s.sends("none of them waits", proposal(0, 1, 1, -1, ""), prevote(0, 1, 1, ""))
}

// A record waits for its form alone, be it one that may not be now.
func TestP5SubmitTakesWhatMayNotBeYet(t *testing.T) {
	for _, text := range []string{"la", "ra1", "rz9", "v01", "v00", "v70", "v79", "ja9", "jz1"} {
		s := enter(t, 1, 1, 1, 1, 1)
		s.submits(text, text)
	}
}

func TestP5SubmitFull(t *testing.T) {
	s := enter(t, 1, 1, 1, 1, 1)
	s.submits("ja1", "ja1", "lb", "v09", "rz9")
	for _, text := range []string{"jb1", "ja1"} {
		if err := s.node.Submit(text); !only(err, api.ErrFull) {
			t.Errorf("Submit(%q) = %v, want ErrFull", text, err)
		}
	}
	if err := s.node.Submit("x"); !only(err, api.ErrRecord) {
		t.Errorf("Submit of no record = %v, want ErrRecord: it is named first", err)
	}
	s.takes(proposal(0, 0, 0, -1, "ja1,v09"))
	s.takes(from(precommit(0, 0, 0, "ja1,v09"), 0, 2, 3)...)
	s.submits("jb1", "jc1")
	if err := s.node.Submit("jd1"); !only(err, api.ErrFull) {
		t.Errorf("Submit where two have gone and two have come = %v, want ErrFull", err)
	}
}

func TestP5SubmitAtTheEnd(t *testing.T) {
	s := enter(t, 0, 1)
	s.submits("ja1", "jb1", "jc1", "jd1", "je1")
	if err := s.node.Submit("jf1"); !only(err, api.ErrFull) {
		t.Errorf("Submit at MaxHeight = %v, want ErrFull", err)
	}
	s.stands("at the end", free(api.MaxHeight, 0, 0))
}
