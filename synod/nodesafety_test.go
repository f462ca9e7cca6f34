package synod_test

import (
	"math/rand"
	"slices"
	"strings"
	"testing"
	"unsafe"

	"synod/api"
	"synod/ring"
	"synod/synod"
)

func TestP1TheErrorNamedFirstByNodes(t *testing.T) {
	s := at1(t)
	unsigned := "\x02\x00\xff\x07\x01\x00" // past, far, from an outsider
	s.refuses(unsigned, 7, api.ErrSeal)
	s.keys[7].Sign(unsigned)
	s.refuses(unsigned, 7, api.ErrPast)
	s.refusesMsg(proposal(3, 200, 7, -1, ""), api.ErrFar)
	s.refusesMsg(proposal(1, 21, 7, -1, ""), api.ErrFar)
	s.refusesMsg(proposal(1, 20, 7, -1, ""), api.ErrOutsider)
}

// Of two nodes of the same life one is told much that it refuses: they stay the same.
func TestP1RefusedLeavesNoTrace(t *testing.T) {
	life := func(disturb func(*scene)) (*scene, []api.Msg) {
		s := enter(t, 3, 1, 1, 1, 1)
		steps := []func(){
			func() { s.submits("jq1") },
			func() { s.takes(proposal(0, 0, 0, -1, "ja1")) },
			func() { s.takes(prevote(0, 0, 0, "ja1")) },
			func() { s.ticks(2) },
			func() { s.takes(prevote(0, 0, 1, "ja1")) },
			func() { s.goes(0, 3) },
			func() { s.ticks(3) },
			func() { s.takes(precommit(1, 2, 2, "jx1"), precommit(1, 2, 1, "jx1")) },
			func() { s.takes(from(precommit(0, 0, 0, "ja1"), 0, 2)...) },
			func() { s.ticks(7) },
		}
		for _, step := range steps {
			disturb(s)
			step()
		}
		return s, s.sent()
	}
	quiet, wantSent := life(func(*scene) {})
	loud, gotSent := life(func(s *scene) {
		for _, text := range []string{"", "ja0", "x", "v99"} {
			if s.node.Submit(text) == nil {
				t.Fatalf("Submit(%q) = nil", text)
			}
		}
		h := s.node.State().Height
		for _, m := range []api.Msg{prevoteNothing(h, 9, 5), prevoteNothing(h, 21, 0), prevoteNothing(h, 21, 1), prevoteNothing(h+2, 1, 0), prevoteNothing(h+2, 1, 1), proposal(h, 9, (h+2)%4, -1, "jw1"), precommitNothing(h, 5, 4), precommitNothing(h, 5, 6)} {
			s.refusesMsg(m, s.refusedBy(m))
		}
		for _, from := range []byte{0, 1, 2} {
			s.refuses("\x03"+string([]byte{byte(h), 7, from})+"\x01\x00", int(from), api.ErrSeal)
		}
		s.refuses("", -1, api.ErrForm)
		s.undecided(h)
	})
	if !slices.Equal(gotSent, wantSent) || loud.node.State() != quiet.node.State() || say(loud.node.Registry()) != say(quiet.node.Registry()) {
		t.Errorf("stands %+v, sent\n%+v, want %+v,\n%+v", loud.node.State(), gotSent, quiet.node.State(), wantSent)
	}
}

// refusedBy is the error for a message that is far away or from one who has no say.
func (s *scene) refusedBy(m api.Msg) error {
	if m.Height > s.node.State().Height+1 || m.Round > api.MaxRound {
		return api.ErrFar
	}
	return api.ErrOutsider
}

func TestP1FullLeavesNoTrace(t *testing.T) {
	s := enter(t, 3, 1, 1, 1, 1)
	s.submits("la", "lb", "lc", "ld", "ja1")
	for range 20 {
		if err := s.node.Submit("jz1"); !only(err, api.ErrFull) {
			t.Fatalf("Submit = %v", err)
		}
	}
	s.goes(0, 3)
	s.sends("what waited", proposal(0, 3, 3, -1, "ja1"), prevote(0, 3, 3, "ja1"))
}

// Anything at all is said to nodes of all kinds, much of it signed: no call panics, and the state keeps to what may be.
func TestP1NodesStandWhateverIsSaid(t *testing.T) {
	for seed := range int64(60) {
		random := rand.New(rand.NewSource(seed))
		_, keys := ring.New(10)
		genesis := [][]int{{1, 1, 1, 1}, {1}, {0, 0, 5, 1}, {9, 9, 9, 9, 9, 9, 9, 9}, {1, 2, 3}}[seed%5]
		s := &scene{t, keys, node(t, keys[random.Intn(10)], genesis...)}
		for range 400 {
			s.anything(random)
			s.mayBe()
		}
	}
}

var someValues = []string{"", "ja1", "jb1", "la", "v02", "v12", "v21,ja2", "x", "\xff\x00", strings.Repeat("v", 24)}

var someTexts = []string{"", "ja1", "la", "v13", "x", "ja1,jb1", "\x00", strings.Repeat("j", 1000)}

// anything does one thing to the node, right or wrong.
func (s *scene) anything(random *rand.Rand) {
	height := s.node.State().Height
	switch random.Intn(12) {
	case 0:
		s.node.Submit(someTexts[random.Intn(len(someTexts))])
	case 1:
		s.node.Tick()
	case 2:
		s.node.Receive(someTexts[random.Intn(len(someTexts))])
	case 3:
		s.node.Decided(random.Intn(20) - 4)
		s.node.Registry()
	case 4:
		if got := s.node.Sent(); len(got) > api.MaxOut {
			s.t.Fatalf("Sent tells %d frames", len(got))
		}
	default:
		m := api.Msg{Kind: 1 + random.Intn(3), Height: min(max(height+random.Intn(5)-1, 0), 11), Round: random.Intn(4), From: random.Intn(8), Value: someValues[random.Intn(len(someValues))]}
		if random.Intn(10) == 0 {
			m.Round = random.Intn(256)
		}
		if m.Kind == api.Proposal {
			m.Valid = random.Intn(m.Round+1) - 1
		} else if random.Intn(4) == 0 {
			m.Nil, m.Value = true, ""
		}
		s.node.Receive(s.frame(m))
	}
}

func (s *scene) mayBe() {
	s.t.Helper()
	st := s.node.State()
	good := st.Height >= 0 && st.Height <= api.MaxHeight && st.Round >= 0 && st.Round <= api.MaxRound && st.Locked <= st.Valid && st.Valid <= st.Round && st.Locked >= -1
	good = good && (st.Locked >= 0 || st.LockedValue == "") && (st.Valid >= 0 || st.ValidValue == "")
	if st.Height == api.MaxHeight {
		good = good && st == free(api.MaxHeight, 0, 0)
	} else {
		good = good && st.Step >= api.Propose && st.Step <= api.Closing
	}
	for h := range st.Height {
		if _, certificate, err := s.node.Decided(h); len(certificate) == 0 || err != nil {
			good = false
		}
	}
	if !good {
		s.t.Fatalf("stands %+v", st)
	}
}

func TestP2NodesKeepNothing(t *testing.T) {
	whole := []int{1, 1, 1, 1, 77, 77, 77, 77, 77}
	_, keys := ring.New(8)
	n, _ := synod.New(keys[3], whole[:4])
	if !slices.Equal(whole, []int{1, 1, 1, 1, 77, 77, 77, 77, 77}) {
		t.Errorf("New wrote into genesis: %v", whole)
	}
	scribble(whole)
	if got := say(n.Registry()); got != "11110000  " {
		t.Errorf("the node goes along with genesis: %s", got)
	}
	s := &scene{t, keys, n}
	s.decides(0, 0, "ja1,v09", 0, 1, 2)
	full := []int{1, 1, 1, 1, 0, 0, 0, 0}
	if other, _ := synod.New(keys[3], full); other != nil {
		(&scene{t, keys, other}).decides(0, 0, "ja1,v09", 0, 1, 2)
	}
	if full[0] != 1 {
		t.Errorf("the node writes into genesis: %v", full)
	}
}

// The bytes of texts that were handed in are overwritten: the node has texts of its own.
func TestP2NodesKeepNoTexts(t *testing.T) {
	s := enter(t, 3, 1, 1, 1, 1)
	var all [][]byte
	lent := func(text string) string {
		b := []byte(text)
		all = append(all, b)
		return unsafe.String(&b[0], len(b))
	}
	if err := s.node.Submit(lent("jq7")); err != nil {
		t.Fatal(err)
	}
	said := append([]api.Msg{proposal(0, 0, 0, -1, "ja1")}, from(precommit(0, 0, 0, "ja1"), 0, 1)...)
	said = append(said, proposal(1, 0, 1, -1, "jb1"), precommit(1, 0, 0, "jb1"), precommit(1, 0, 1, "jb1"))
	for _, m := range said {
		if err := s.node.Receive(lent(s.frame(m))); err != nil {
			t.Fatal(err)
		}
	}
	for _, b := range all {
		clear(b)
	}
	s.refusesMsg(precommit(0, 0, 1, "ja1"), api.ErrKnown)
	s.refusesMsg(precommit(1, 0, 1, "jb1"), api.ErrKnown)
	s.takes(precommit(0, 0, 2, "ja1"), precommit(1, 0, 2, "jb1"))
	s.decided(0, "ja1", from(precommit(0, 0, 0, "ja1"), 0, 1, 2)...)
	s.decided(1, "jb1", from(precommit(1, 0, 0, "jb1"), 0, 1, 2)...)
	s.sent()
	s.refusesMsg(prevoteNothing(0, 0, 0), api.ErrPast)
	s.sends("the kept frames", append([]api.Msg{proposal(0, 0, 0, -1, "ja1")}, from(precommit(0, 0, 0, "ja1"), 0, 1, 2)...)...)
	s.takes(from(precommitNothing(2, 1, 0), 0, 1)...)
	s.sends("the record", proposal(2, 1, 3, -1, "jq7"), prevote(2, 1, 3, "jq7"))
}

func TestP2WhatNodesTellIsTheCallers(t *testing.T) {
	s := enter(t, 3, 1, 1, 1, 1)
	s.decides(0, 0, "ja1,jb2", 0, 1, 2)
	s.takes(proposal(1, 0, 1, -1, "jc1"))
	blot := func(list []string) {
		list = list[:cap(list)]
		for i := range list {
			list[i] = "blot"
		}
	}
	blot(s.node.Sent())
	s.ticks(5)
	s.sends("again", prevote(1, 0, 3, "jc1"))
	_, certificate, _ := s.node.Decided(0)
	blot(certificate)
	s.decided(0, "ja1,jb2", from(precommit(0, 0, 0, "ja1,jb2"), 0, 1, 2)...)
	s.refusesMsg(prevoteNothing(0, 0, 0), api.ErrPast)
	s.sends("the kept frames", append([]api.Msg{proposal(0, 0, 0, -1, "ja1,jb2")}, from(precommit(0, 0, 0, "ja1,jb2"), 0, 1, 2)...)...)
	r := s.node.Registry()
	want := say(r)
	scribble(r.Powers)
	scribble(r.Roles)
	if got := say(s.node.Registry()); got != want {
		t.Errorf("Registry = %s behind writing into what it told, want %s", got, want)
	}
	s.takes(from(precommit(1, 0, 0, "jc1"), 0, 1, 2)...)
	s.stands("powers as before", free(2, 0, api.Propose))
}

// Two nodes of one key share nothing but the ring: what one is told the other does not know.
func TestP2NodesShareNothing(t *testing.T) {
	s := enter(t, 3, 1, 1, 1, 1)
	other := &scene{t, s.keys, node(t, s.keys[3], 1, 1, 1, 1)}
	s.submits("jx1", "jx1", "jx1", "jx1", "jx1")
	s.decides(0, 0, "ja1", 0, 1, 2)
	s.takes(proposal(1, 0, 1, -1, "jb1"))
	s.ticks(3)
	other.stands("as it began", free(0, 0, api.Propose))
	other.sends("as it began")
	other.undecided(0)
	other.submits("jy1")
	other.takes(precommit(0, 0, 0, "ja1"))
	other.ticks(2)
	other.sends("its own time")
}
