package synod_test

import (
	"math/rand"
	"slices"
	"testing"

	"synod/api"
	"synod/synod"
)

// muddle leads nodes through rounds of the height 0, in which each hears as little as lets it go on, and some hear no proposal: so they come to be locked on different values.
func (w *network) muddle(rounds int) {
	for round := range rounds {
		for kind := api.Proposal; kind <= api.Precommit; kind++ {
			for _, n := range w.nodes {
				w.heard = append(w.heard, n.Sent()...)
			}
			for _, n := range w.nodes {
				w.hint(n, kind, round)
			}
		}
	}
}

// hint brings a node messages one by one, with much time between, till it has gone on.
func (w *network) hint(n *synod.Node, kind, round int) {
	stays := func() bool {
		st := n.State()
		return st.Height == 0 && st.Round == round && (st.Step == kind || kind == api.Precommit)
	}
	for _, i := range w.random.Perm(len(w.heard)) {
		m, _ := synod.Decode(w.heard[i])
		deaf := kind == api.Proposal && w.random.Intn(4) == 0
		if m.Height == 0 && m.Kind == kind && m.Round == round && stays() && !deaf {
			n.Receive(w.heard[i])
			pass(n, stays)
		}
	}
	pass(n, stays)
}

// pass lets time go on, longer than any timer takes.
func pass(n *synod.Node, stays func() bool) {
	for range 10 {
		if stays() {
			n.Tick()
		}
	}
}

// lose lets most frames be lost or late for a while.
func (w *network) lose(ticks int) {
	for range ticks {
		w.carry(4, 4)
		w.tick()
	}
}

// isOpen tells whether it is a state from which all must be decided, and whether nodes are locked on different values.
func (w *network) isOpen() (bool, bool) {
	open := true
	var values []string
	for _, n := range w.nodes {
		st := n.State()
		open = open && st.Round <= 5
		if st.Locked >= 0 && st.Height == 0 && !slices.Contains(values, st.LockedValue) {
			values = append(values, st.LockedValue)
		}
	}
	return open, len(values) > 1
}

// All are honest, and much is lost for a while: then every height is decided, and a client can follow.
func TestP12EveryHeightIsDecided(t *testing.T) {
	splits := 0
	for seed := range int64(240) {
		genesis := [][]int{{1, 1, 1, 1}, {1, 1, 1}, {3, 2, 2, 1}, {5, 1, 1}, {1, 1}, {1, 2, 3, 4, 5, 6, 7, 8}, {1, 1, 1, 1, 1, 1, 1}, {1}}[seed%8]
		w := connect(t, seed, genesis)
		for id, n := range w.nodes {
			n.Submit("j" + string(rune('a'+id)) + "1")
		}
		if seed%3 == 0 {
			w.lose(int(seed) % 14)
		} else {
			w.muddle(int(seed/8) % 6)
		}
		open, split := w.isOpen()
		if !open {
			t.Fatalf("seed %d: a late round: the test is no good", seed)
		}
		if split {
			splits++
		}
		for tick := 0; w.least() < api.MaxHeight; tick++ {
			if tick == 1000 {
				t.Fatalf("seed %d: no more than %d heights in %d ticks", seed, w.least(), tick)
			}
			w.settle()
			w.tick()
		}
		w.agree()
		w.fold(genesis)
		w.followed(genesis)
	}
	if splits == 0 {
		t.Error("nodes were never locked on different values: the test is no good")
	}
}

// followed sees that a client accepts what each node has decided.
func (w *network) followed(genesis []int) {
	w.t.Helper()
	for id, n := range w.nodes {
		if n == nil {
			continue
		}
		c := client(w.t, w.keys[0].Ring(), genesis...)
		for h := range n.State().Height {
			block, certificate, _ := n.Decided(h)
			if err := c.Accept(block, certificate); err != nil {
				w.t.Fatalf("height %d of %d: Accept(%q, %q) = %v", h, id, block, certificate, err)
			}
		}
		if c.Height() != n.State().Height || say(c.Registry()) != say(n.Registry()) {
			w.t.Fatalf("the client is at %d with %s, the node at %d with %s", c.Height(), say(c.Registry()), n.State().Height, say(n.Registry()))
		}
	}
}

// isMoreThanAThird tells whether ids have more than a third of the power.
func isMoreThanAThird(genesis []int, ids []int) bool {
	all, some := 0, 0
	for id, p := range genesis {
		all += p
		if slices.Contains(ids, id) {
			some += p
		}
	}
	return 3*some > all
}

// Whoever signs two certificates of one height and round: those who have signed both are to blame, and have more than a third.
func TestP12BlameOfTwoCertificates(t *testing.T) {
	pairs := 0
	for seed := range int64(2000) {
		random := rand.New(rand.NewSource(seed))
		genesis := make([]int, 1+random.Intn(8))
		for id := range genesis {
			genesis[id] = random.Intn(4) * random.Intn(4)
		}
		genesis[random.Intn(len(genesis))] = 1
		s := follow(t, genesis...)
		round := random.Intn(21)
		some := func(block string) ([]int, []string) {
			ids := random.Perm(8)[:random.Intn(9)]
			return ids, s.frames(from(precommit(0, round, 0, block), ids...)...)
		}
		idsA, a := some("ja1")
		idsB, b := some("")
		r := s.keys[0].Ring()
		if client(t, r, genesis...).Accept("ja1", a) != nil || client(t, r, genesis...).Accept("", b) != nil {
			continue
		}
		pairs++
		var both []int
		for id := range api.MaxIds {
			if slices.Contains(idsA, id) && slices.Contains(idsB, id) {
				both = append(both, id)
			}
		}
		if got := synod.Blame(r, a, b); !slices.Equal(got, both) || !isMoreThanAThird(genesis, got) {
			t.Errorf("of %v %v and %v have signed: Blame = %v", genesis, idsA, idsB, got)
		}
	}
	if pairs < 50 {
		t.Errorf("no more than %d pairs are accepted: the test is no good", pairs)
	}
}

// Half of all lie: 2 and 3 decide two blocks at one height and round.
func TestP12BlameOfASplit(t *testing.T) {
	genesis := []int{1, 1, 1, 1}
	s := besiege(t, 0, genesis, 0, 1)
	var certificates [2][]string
	for i, block := range []string{"ja1", "jb1"} {
		id := 2 + i
		s.tell(id, proposal(0, 0, 0, -1, block), prevote(0, 0, 0, block), prevote(0, 0, 1, block), precommit(0, 0, 0, block), precommit(0, 0, 1, block))
		got, certificate, err := s.nodes[id].Decided(0)
		if got != block || err != nil {
			t.Fatalf("%d has decided %q, %v, want %q", id, got, err, block)
		}
		if err := client(t, s.keys[0].Ring(), genesis...).Accept(block, certificate); err != nil {
			t.Fatalf("Accept(%q) = %v", block, err)
		}
		certificates[i] = certificate
	}
	if got := synod.Blame(s.keys[0].Ring(), certificates[0], certificates[1]); !slices.Equal(got, []int{0, 1}) {
		t.Errorf("Blame = %v, want those who lie", got)
	}
}

// flatter lets those who lie be of two minds in a round, for one block with some and for another one with the others, who don't hear each other.
func (s *siege) flatter(round int, blocks []string, minds []int) {
	for range 4 {
		s.hear()
		for to, n := range s.nodes {
			if n == nil {
				continue
			}
			block := blocks[minds[to]]
			for _, liar := range s.liars {
				for _, m := range []api.Msg{proposal(0, round, liar, -1, block), prevote(0, round, liar, block), precommit(0, round, liar, block)} {
					n.Receive(signed(s.t, s.keys, m))
				}
			}
			for _, frame := range s.heard {
				if m, _ := synod.Decode(frame); minds[m.From] == minds[to] {
					n.Receive(frame)
				}
			}
		}
	}
	s.hear()
}

// More than a third lie: where clients can be led to two blocks in one round, Blame tells those who lie, and nobody else.
func TestP12BlameTellsNobodyHonest(t *testing.T) {
	pairs := 0
	for seed := range int64(300) {
		random := rand.New(rand.NewSource(seed))
		genesis := make([]int, 3+random.Intn(6))
		minds := make([]int, len(genesis))
		for id := range genesis {
			genesis[id], minds[id] = 1+random.Intn(3), random.Intn(2)
		}
		liars := random.Perm(len(genesis))[:2]
		s := besiege(t, seed, genesis, liars...)
		round := liars[random.Intn(2)] // whose turn it is then
		s.flatter(round, []string{"jx1", "jy1"}, minds)
		accepted := s.acceptable(genesis, nil)
		for _, a := range accepted {
			for _, b := range accepted {
				if a.block == b.block {
					continue
				}
				pairs++
				slices.Sort(liars)
				if got := synod.Blame(s.keys[0].Ring(), a.frames, b.frames); !slices.Equal(got, liars) || !isMoreThanAThird(genesis, got) {
					t.Fatalf("seed %d: of %v Blame = %v, want %v", seed, genesis, got, liars)
				}
			}
		}
	}
	if pairs == 0 {
		t.Error("nobody can be led to two blocks: the test is no good")
	}
}
