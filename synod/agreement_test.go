package synod_test

import (
	"maps"
	"slices"
	"testing"

	"synod/api"
	"synod/synod"
)

// siege is a network in the hands of those who lie: they say who hears what, and sign what suits them.
type siege struct {
	network
	liars []int
	known []string // values that somebody has said
	ears  []int    // by ids: of ten frames so many are heard
}

func besiege(t *testing.T, seed int64, genesis []int, liars ...int) *siege {
	t.Helper()
	s := &siege{network: *connect(t, seed, genesis, liars...), liars: liars, known: []string{"", "jx1"}, ears: make([]int, len(genesis))}
	for id, n := range s.nodes {
		if n != nil {
			n.Submit("j" + string(rune('a'+id)) + "1")
		}
	}
	return s
}

// hear lets those who lie know what was sent.
func (s *siege) hear() {
	for _, n := range s.nodes {
		if n == nil {
			continue
		}
		for _, frame := range n.Sent() {
			m, _ := synod.Decode(frame)
			if !slices.Contains(s.known, m.Value) {
				s.known = append(s.known, m.Value)
			}
			if !slices.Contains(s.heard, frame) {
				s.heard = append(s.heard, frame)
			}
		}
	}
}

// whisper lets those who lie tell a node, in its round, votes for some values, and proposals where it is their turn.
func (s *siege) whisper(to int) {
	st := s.nodes[to].State()
	if st.Height == api.MaxHeight {
		return
	}
	for _, liar := range s.liars {
		m := api.Msg{Kind: 1 + s.random.Intn(3), Height: st.Height, Round: st.Round, From: liar, Value: s.known[s.random.Intn(len(s.known))]}
		if s.random.Intn(4) == 0 && m.Round < api.MaxRound {
			m.Round++
		}
		if m.Kind == api.Proposal {
			m.Valid = s.random.Intn(m.Round+1) - 1
		} else if s.random.Intn(3) == 0 {
			m.Nil, m.Value = true, ""
		}
		s.nodes[to].Receive(signed(s.t, s.keys, m))
	}
}

// step brings each node what its ear lets in of what was said at its height, and what those who lie tell it.
func (s *siege) step() {
	for to, n := range s.nodes {
		if n == nil {
			continue
		}
		for _, frame := range s.heard {
			if m, _ := synod.Decode(frame); m.Height == n.State().Height && s.random.Intn(10) < s.ears[to] {
				n.Receive(frame)
			}
		}
		s.whisper(to)
	}
	s.hear()
}

// run goes on for a while; ears open and close.
func (s *siege) run(ticks int) {
	s.hear()
	for tick := range ticks {
		if tick%3 == 0 {
			for id := range s.ears {
				s.ears[id] = []int{0, 1, 3, 10}[s.random.Intn(4)]
			}
		}
		s.step()
		for _, n := range s.nodes {
			if n != nil && s.random.Intn(4) > 0 {
				n.Tick()
			}
		}
		s.hear()
	}
}

// certified is a block with its certificate.
type certified struct {
	block  string
	frames []string
}

// certificates makes the greatest ones that can be for each value for which somebody honest has precommitted at a height: of one round, or of all rounds together.
func (s *siege) certificates(height int) []certified {
	parts := map[api.Msg]map[int]string{} // frames by senders
	var list []certified
	for _, frame := range s.heard {
		m, _ := synod.Decode(frame)
		if m.Kind != api.Precommit || m.Nil || m.Height != height || slices.Contains(s.liars, m.From) {
			continue
		}
		together := api.Msg{Value: m.Value}
		alone := api.Msg{Round: m.Round, Kind: m.Kind, Value: m.Value}
		for _, key := range []api.Msg{alone, together} {
			if parts[key] == nil {
				parts[key] = map[int]string{}
				for _, liar := range s.liars {
					parts[key][liar] = signed(s.t, s.keys, precommit(height, m.Round, liar, m.Value))
				}
			}
			parts[key][m.From] = frame
		}
	}
	for key, frames := range parts {
		list = append(list, certified{key.Value, slices.Collect(maps.Values(frames))})
	}
	return list
}

// judge sees that clients can be led to one block at most for each height, that nodes decide no other one, and that nobody honest is to blame. It tells how many heights somebody can be led to.
func (s *siege) judge(genesis []int) int {
	s.t.Helper()
	for _, id := range synod.Blame(s.keys[0].Ring(), s.heard, nil) {
		if s.nodes[id] != nil {
			s.t.Fatalf("%d is to blame", id)
		}
	}
	var below []certified
	for height := range api.MaxHeight {
		accepted := s.acceptable(genesis, below)
		for _, n := range s.nodes {
			if n == nil {
				continue
			}
			if block, frames, err := n.Decided(height); err == nil {
				accepted = append(accepted, certified{block, frames})
			}
		}
		if len(accepted) == 0 {
			return height
		}
		for _, one := range accepted {
			if one.block != accepted[0].block {
				s.t.Fatalf("the height %d may be %q or %q", height, accepted[0].block, one.block)
			}
		}
		below = append(below, accepted[0])
	}
	return api.MaxHeight
}

// acceptable tells what a client would accept behind other blocks.
func (s *siege) acceptable(genesis []int, below []certified) []certified {
	var list []certified
	for _, one := range s.certificates(len(below)) {
		for _, block := range s.known {
			c := client(s.t, s.keys[0].Ring(), genesis...)
			for _, b := range below {
				c.Accept(b.block, b.frames)
			}
			if c.Accept(block, one.frames) == nil {
				list = append(list, certified{block, one.frames})
			}
		}
	}
	return list
}

// councils are powers, and those who lie, with less than a third.
var councils = []struct {
	genesis []int
	liars   []int
}{
	{[]int{1, 1, 1, 1}, []int{1}},
	{[]int{1, 1, 1, 1}, []int{0}},
	{[]int{2, 2, 2, 1}, []int{0}},
	{[]int{1, 1, 1, 1, 1, 1, 1}, []int{0, 3}},
	{[]int{9, 4, 9, 9, 4}, []int{1, 4}},
}

// Some lie, and say who hears what: nobody is led to two blocks.
func TestP11Agreement(t *testing.T) {
	heights := 0
	for seed := range int64(600) {
		c := councils[seed%5]
		s := besiege(t, seed, c.genesis, c.liars...)
		s.run(40)
		heights += s.judge(c.genesis)
	}
	if heights < 200 {
		t.Errorf("no more than %d heights are decided: the test is no good", heights)
	}
}

// For many heights some lie, much is lost, and one who is honest has more power or less: nobody decides otherwise than others, and a client can follow each.
func TestP11AgreementAtManyHeights(t *testing.T) {
	heights := 0
	for seed := range int64(150) {
		c := councils[seed%5]
		w := connect(t, seed, c.genesis, c.liars...)
		for tick := range 120 {
			if tick%7 == 0 {
				w.submit("ja1", "la", "v23", "v25", "v29") // 2 is honest
			}
			for range 2 {
				for _, liar := range c.liars {
					w.lie(liar, min(w.least()+w.random.Intn(2), api.MaxHeight-1))
				}
				w.carry(1, 3)
			}
			w.tick()
			w.agree()
		}
		w.fold(c.genesis)
		w.followed(c.genesis)
		heights += w.least()
	}
	if heights < 300 {
		t.Errorf("no more than %d heights are decided: the test is no good", heights)
	}
}

// submit lets one of the records wait at each node.
func (w *network) submit(records ...string) {
	for _, n := range w.nodes {
		if n != nil {
			n.Submit(records[w.random.Intn(len(records))])
		}
	}
}

// tell brings a node what others have said, or what those who lie say.
func (s *siege) tell(to int, list ...api.Msg) {
	s.t.Helper()
	for _, m := range list {
		frame, err := synod.Encode(m)
		if slices.Contains(s.liars, m.From) {
			s.keys[m.From].Sign(frame)
		}
		if err = s.nodes[to].Receive(frame); err != nil {
			s.t.Fatalf("%d is told %+v: %v", to, m, err)
		}
	}
	s.hear()
}

// wait lets time go on for some nodes.
func (s *siege) wait(ticks int, ids ...int) {
	for _, id := range ids {
		for range ticks {
			s.nodes[id].Tick()
		}
	}
	s.hear()
}

// reach lets time go on for a node, till it is in a round.
func (s *siege) reach(round int, ids ...int) {
	s.t.Helper()
	for _, id := range ids {
		for range 10 {
			if s.nodes[id].State().Round < round {
				s.nodes[id].Tick()
			}
		}
		if st := s.nodes[id].State(); st.Height != 0 || st.Round != round {
			s.t.Fatalf("%d stands %+v, not in the round %d", id, st, round)
		}
	}
	s.hear()
}

// press lets some hear each other for a while, and those who lie vote for a value with them.
func (s *siege) press(value string, ids ...int) {
	for range 40 {
		for _, to := range ids {
			for _, frame := range s.heard {
				if m, _ := synod.Decode(frame); slices.Contains(ids, m.From) {
					s.nodes[to].Receive(frame)
				}
			}
			st := s.nodes[to].State()
			for _, liar := range s.liars {
				s.nodes[to].Receive(signed(s.t, s.keys, prevote(0, st.Round, liar, value)))
				s.nodes[to].Receive(signed(s.t, s.keys, precommit(0, st.Round, liar, value)))
			}
			s.nodes[to].Tick()
			s.hear()
		}
	}
}

// ends sees that the others decide the block of one who has decided, when they hear it.
func (s *siege) ends(block string) {
	s.t.Helper()
	s.judge([]int{1, 1, 1, 1})
	for range 10 {
		s.settle()
		s.tick()
	}
	s.agree()
	for _, n := range s.nodes {
		if n == nil {
			continue
		}
		if got, _, err := n.Decided(0); got != block || err != nil {
			s.t.Errorf("decided is %q, %v, want %q", got, err, block)
		}
	}
}

// split leads 0 to decide the empty block in the round 0, on which 2 is locked, too; 3 knows of nothing. (1 lies.) Both go on.
func split(t *testing.T) *siege {
	s := besiege(t, 0, []int{1, 1, 1, 1}, 1)
	s.hear()
	s.tell(2, proposal(0, 0, 0, -1, ""), prevote(0, 0, 0, ""), prevote(0, 0, 1, ""))
	s.tell(0, prevote(0, 0, 1, ""), prevote(0, 0, 2, ""), precommit(0, 0, 1, ""), precommit(0, 0, 2, ""))
	if block, _, err := s.nodes[0].Decided(0); block != "" || err != nil {
		t.Fatalf("0 has not decided: %v", err)
	}
	s.tell(2, precommitNothing(0, 0, 1), precommit(0, 0, 0, ""))
	s.tell(3, precommitNothing(0, 0, 1), precommit(0, 0, 0, ""), precommit(0, 0, 2, ""))
	s.reach(1, 2, 3)
	return s
}

// One who lies proposes another block.
func TestP11LockAgainstANewBlock(t *testing.T) {
	s := split(t)
	for _, id := range []int{2, 3} {
		s.tell(id, proposal(0, 1, 1, -1, "jx1"))
	}
	s.press("jx1", 2, 3)
	s.ends("")
}

// One who lies says that another block was valid, in the round of the lock, or for nobody.
func TestP11LockAgainstALie(t *testing.T) {
	s := split(t)
	for _, id := range []int{2, 3} {
		s.tell(id, proposal(0, 1, 1, 0, "jx1"), prevote(0, 0, 1, "jx1"))
	}
	s.press("jx1", 2, 3)
	s.ends("")
}

// In the round 1 there is nothing, in the round 2 3 hears no proposal; then it proposes another block itself.
func TestP11LockBehindNothing(t *testing.T) {
	s := split(t)
	s.wait(4, 2, 3)
	s.tell(2, prevoteNothing(0, 1, 3), prevoteNothing(0, 1, 1))
	s.tell(3, prevoteNothing(0, 1, 2), prevoteNothing(0, 1, 1))
	s.tell(2, precommitNothing(0, 1, 3), precommitNothing(0, 1, 1))
	s.tell(3, precommitNothing(0, 1, 2), precommitNothing(0, 1, 1))
	s.reach(2, 2, 3)
	s.wait(5, 3)
	s.tell(3, prevote(0, 2, 2, ""), prevoteNothing(0, 2, 1))
	s.tell(2, prevoteNothing(0, 2, 3), prevoteNothing(0, 2, 1))
	s.wait(4, 2, 3)
	s.tell(2, precommitNothing(0, 2, 3), precommitNothing(0, 2, 1))
	s.tell(3, precommitNothing(0, 2, 2), precommitNothing(0, 2, 1))
	s.reach(3, 2, 3)
	s.press("jd1", 2, 3)
	s.ends("")
}

// In the round 0 all are for the empty block, but nobody knows; in the round 1 1 decides another one, on which 0 is locked. Then one who lies proposes the first one again. (2 lies.)
func TestP11LockAgainstAnOlderValidRound(t *testing.T) {
	s := besiege(t, 0, []int{1, 1, 1, 1}, 2)
	s.hear()
	s.tell(1, proposal(0, 0, 0, -1, ""), prevote(0, 0, 0, ""), prevoteNothing(0, 0, 2))
	s.tell(3, proposal(0, 0, 0, -1, ""), prevote(0, 0, 1, ""), prevoteNothing(0, 0, 2))
	s.tell(0, prevote(0, 0, 3, ""), prevoteNothing(0, 0, 2))
	s.wait(2, 0, 1, 3)
	s.tell(0, precommitNothing(0, 0, 1), precommitNothing(0, 0, 2))
	s.tell(1, precommitNothing(0, 0, 0), precommitNothing(0, 0, 2))
	s.tell(3, precommitNothing(0, 0, 1), precommitNothing(0, 0, 2))
	s.reach(1, 0, 1, 3)
	s.tell(0, proposal(0, 1, 1, -1, "jb1"), prevote(0, 1, 1, "jb1"), prevote(0, 1, 2, "jb1"))
	s.tell(1, prevote(0, 1, 0, "jb1"), prevote(0, 1, 2, "jb1"), precommit(0, 1, 0, "jb1"), precommit(0, 1, 2, "jb1"))
	s.tell(0, precommit(0, 1, 1, "jb1"), precommitNothing(0, 1, 2))
	s.tell(3, precommit(0, 1, 0, "jb1"), precommit(0, 1, 1, "jb1"), precommitNothing(0, 1, 2))
	s.reach(2, 0, 3)
	for _, id := range []int{0, 3} {
		s.tell(id, proposal(0, 2, 2, 0, ""))
	}
	s.tell(0, prevote(0, 0, 1, ""))
	s.tell(3, prevote(0, 0, 0, ""))
	s.press("", 0, 3)
	s.ends("jb1")
}

// The empty block has precommits of two nodes and of one who lies, in two rounds; another one is decided. (2 lies.)
func TestP11VotesOfTwoRounds(t *testing.T) {
	s := besiege(t, 0, []int{1, 1, 1, 1}, 2)
	s.hear()
	s.tell(1, proposal(0, 0, 0, -1, ""), prevote(0, 0, 0, ""), prevoteNothing(0, 0, 2))
	s.tell(3, proposal(0, 0, 0, -1, ""), prevote(0, 0, 0, ""), prevoteNothing(0, 0, 2))
	s.tell(0, prevote(0, 0, 1, ""), prevote(0, 0, 3, ""))
	s.wait(2, 1, 3)
	s.tell(0, precommitNothing(0, 0, 1), precommitNothing(0, 0, 2))
	s.tell(1, precommit(0, 0, 0, ""), precommitNothing(0, 0, 2))
	s.tell(3, precommit(0, 0, 0, ""), precommitNothing(0, 0, 2))
	s.reach(1, 0, 1, 3)
	s.tell(3, proposal(0, 1, 1, -1, "jb1"), prevote(0, 1, 1, "jb1"), prevote(0, 1, 2, "jb1"))
	s.tell(1, prevote(0, 1, 3, "jb1"), prevoteNothing(0, 1, 2))
	s.wait(4, 0)
	s.tell(0, prevote(0, 1, 1, "jb1"), prevoteNothing(0, 1, 2))
	s.wait(3, 0, 1)
	s.tell(0, precommitNothing(0, 1, 1), precommitNothing(0, 1, 2))
	s.tell(1, precommitNothing(0, 1, 0), precommitNothing(0, 1, 2))
	s.tell(3, precommitNothing(0, 1, 0), precommitNothing(0, 1, 2))
	s.reach(2, 0, 1, 3)
	s.tell(0, proposal(0, 2, 2, 0, ""), prevoteNothing(0, 2, 2))
	s.tell(1, proposal(0, 2, 2, 0, ""), prevote(0, 0, 3, ""), prevote(0, 2, 0, ""), prevote(0, 2, 2, ""))
	s.tell(0, prevote(0, 2, 1, ""))
	s.wait(5, 3)
	s.tell(3, prevote(0, 2, 0, ""), prevoteNothing(0, 2, 2))
	s.wait(4, 0, 3)
	s.tell(0, precommitNothing(0, 2, 3), precommitNothing(0, 2, 2))
	s.tell(3, precommitNothing(0, 2, 0), precommitNothing(0, 2, 2))
	s.reach(3, 0, 3)
	s.tell(0, prevote(0, 1, 3, "jb1"), prevote(0, 1, 2, "jb1"))
	s.press("jb1", 0, 3)
	s.ends("jb1")
}
