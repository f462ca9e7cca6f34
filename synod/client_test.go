package synod_test

import (
	"slices"
	"testing"

	"synod/api"
	"synod/ring"
	"synod/synod"
)

// reading is a client, and the keys of all, so that a test can make any certificate.
type reading struct {
	scene  // without a node
	client *synod.Client
}

func follow(t *testing.T, genesis ...int) *reading {
	t.Helper()
	r, keys := ring.New(api.MaxIds + 2)
	return &reading{scene{t: t, keys: keys}, client(t, r, genesis...)}
}

func client(t *testing.T, r *ring.Ring, genesis ...int) *synod.Client {
	t.Helper()
	c, err := synod.Follow(r, genesis)
	if c == nil || err != nil {
		t.Fatalf("Follow(%v) = %v, %v", genesis, c, err)
	}
	return c
}

// accepts hands in a block with the precommits of some ids in the round 0.
func (s *reading) accepts(block string, ids ...int) {
	s.t.Helper()
	height := s.client.Height()
	frames := s.frames(from(precommit(height, 0, 0, block), ids...)...)
	if err := s.client.Accept(block, frames); err != nil || s.client.Height() != height+1 {
		s.t.Fatalf("Accept(%q) by %v at the height %d = %v; the height is %d", block, ids, height, err, s.client.Height())
	}
}

// rejects sees that a certificate is refused, and that nothing changes.
func (s *reading) rejects(why, block string, frames []string, want error) {
	s.t.Helper()
	height, registry := s.client.Height(), say(s.client.Registry())
	if err := s.client.Accept(block, frames); !only(err, want) {
		s.t.Errorf("%s: Accept(%q, %q) = %v, want %v", why, block, frames, err, want)
	}
	if s.client.Height() != height || say(s.client.Registry()) != registry {
		s.t.Fatalf("%s: the height %d, %s behind an error; %d, %s ahead of it", why, s.client.Height(), say(s.client.Registry()), height, registry)
	}
}

func TestP10Genesis(t *testing.T) {
	r, _ := ring.New(8)
	for _, genesis := range [][]int{nil, {}, {0}, powers(), {-1, 2}, {10}, {1, 10}, {1, 0, 0, 0, 0, 0, 0, 0, 0}, make([]int, 100)} {
		if c, err := synod.Follow(r, genesis); c != nil || !only(err, api.ErrArg) {
			t.Errorf("Follow(%v) = %v, %v, want ErrArg alone", genesis, c, err)
		}
	}
	for _, genesis := range [][]int{{1}, {0, 1}, {9, 9, 9, 9, 9, 9, 9, 9}, powers(0, 0, 3)} {
		c := client(t, r, genesis...)
		if c.Height() != 0 || say(c.Registry()) != say(api.Registry{Powers: powers(genesis...)}) {
			t.Errorf("a client of %v begins at the height %d with %s", genesis, c.Height(), say(c.Registry()))
		}
	}
}

func TestP10AcceptsBlocks(t *testing.T) {
	genesis := []int{1, 1, 1, 1}
	s := follow(t, genesis...)
	blocks := []string{"ja1,jb2,v02", "la,v01", "", "rb3,jz9,lb", "v32,jc1"}
	for h, block := range blocks {
		want, err := synod.Fold(genesis, blocks[:h])
		if got := s.client.Registry(); err != nil || s.client.Height() != h || say(got) != say(want) || len(got.Powers) != api.MaxIds {
			t.Errorf("the height %d, %s, want %d, %s (%v)", s.client.Height(), say(got), h, say(want), err)
		}
		s.accepts(block, 2, 0, 3, 1)
	}
	if got := say(s.client.Registry()); got != "11120000 cz 19" {
		t.Errorf("Registry = %s", got)
	}
}

// Of one round, whichever it is, in any order, with those who have no power among them.
func TestP10AcceptsAnyRoundAndOrder(t *testing.T) {
	for _, round := range []int{0, 1, 20, 21, 255} {
		for _, ids := range [][]int{{0, 1, 2}, {3, 1, 0}, {7, 2, 5, 1, 3}, {0, 1, 2, 3, 4, 5, 6, 7}} {
			s := follow(t, 1, 1, 1, 1)
			frames := s.frames(from(precommit(0, round, 0, "ja1"), ids...)...)
			if err := s.client.Accept("ja1", frames); err != nil || s.client.Height() != 1 || s.client.Registry().Names != "a" {
				t.Errorf("round %d, by %v: %v", round, ids, err)
			}
		}
	}
}

func TestP10MoreThanTwoThirds(t *testing.T) {
	for _, c := range []struct {
		genesis []int
		ids     []int
		enough  bool
	}{
		{[]int{1}, nil, false},
		{[]int{1}, []int{0}, true},
		{[]int{1}, []int{1}, false},
		{[]int{1, 1, 1}, []int{0, 2}, false}, // two thirds are not more than two thirds
		{[]int{1, 1, 1}, []int{0, 2, 1}, true},
		{[]int{4, 2}, []int{0}, false},
		{[]int{5, 2}, []int{0}, true},
		{[]int{3, 2, 2, 1}, []int{0, 1}, false},
		{[]int{3, 2, 2, 1}, []int{1, 2, 3}, false},
		{[]int{3, 2, 2, 1}, []int{0, 1, 3}, true},
		{[]int{1, 1, 1, 1}, []int{0, 1, 4, 5, 6, 7}, false}, // those without power count for nothing
		{[]int{9, 9, 9, 9, 9, 9, 9, 9}, []int{0, 1, 2, 3, 4}, false},
		{[]int{9, 9, 9, 9, 9, 9, 9, 9}, []int{0, 1, 2, 3, 4, 7}, true},
		{[]int{9, 9, 9, 9, 9, 9, 0, 0}, []int{0, 1, 2, 3}, false},
		{[]int{9, 9, 9, 9, 9, 8, 1, 0}, []int{0, 1, 2, 3, 6}, true},
	} {
		s := follow(t, c.genesis...)
		if c.enough {
			s.accepts("ja1", c.ids...)
		} else {
			s.rejects("too few", "ja1", s.frames(from(precommit(0, 0, 0, "ja1"), c.ids...)...), api.ErrCert)
		}
	}
}

// The powers are those behind the blocks that were accepted, not those of genesis, nor those behind this block.
func TestP10PowersOfTheHeight(t *testing.T) {
	s := follow(t, 1, 1, 1, 1)
	s.rejects("its own block gives no power", "v09", s.frames(from(precommit(0, 0, 0, "v09"), 0, 1)...), api.ErrCert)
	s.accepts("v09", 1, 2, 3) // it is enough by the powers ahead of it
	s.rejects("three of twelve", "", s.frames(from(precommit(1, 0, 0, ""), 1, 2, 3)...), api.ErrCert)
	s.accepts("v00", 0) // nine of twelve
	s.rejects("one without power", "", s.frames(from(precommit(2, 0, 0, ""), 0, 1, 2)...), api.ErrCert)
	s.accepts("v79", 1, 2, 3)
	s.accepts("", 7)
}

func TestP10EachError(t *testing.T) {
	s := follow(t, 1, 1, 1, 1)
	s.accepts("ja1", 0, 1, 2)
	most := s.frames(from(precommit(1, 0, 0, "jb1"), 0, 1, 2)...)
	and := func(m ...api.Msg) []string { return append(slices.Clone(most[:2]), s.frames(m...)...) }
	unsigned, _ := synod.Encode(precommit(1, 0, 3, "jb1"))
	for _, c := range []struct {
		why    string
		block  string
		frames []string
		want   error
	}{
		{"no block", "x", most, api.ErrRecord},
		{"no block", "jb1,", most, api.ErrRecord},
		{"not good", "ja1", s.frames(from(precommit(1, 0, 0, "ja1"), 0, 1, 2, 3)...), api.ErrRecord},
		{"not good, as a whole", "la,la", s.frames(from(precommit(1, 0, 0, "la,la"), 0, 1, 2, 3)...), api.ErrRecord},
		{"two powers", "v02,v12", s.frames(from(precommit(1, 0, 0, "v02,v12"), 0, 1, 2, 3)...), api.ErrRecord},
		{"too long", "jb1,jc1,jd1,je1", nil, api.ErrRecord},
		{"no frame", "jb1", append(slices.Clone(most), ""), api.ErrForm},
		{"no frame ahead", "jb1", append([]string{"x"}, most...), api.ErrForm},
		{"a frame with more behind it", "jb1", append(slices.Clone(most), most[0]+"x"), api.ErrForm},
		{"a frame cut short", "jb1", append(slices.Clone(most), most[0][:8]), api.ErrForm},
		{"not signed", "jb1", append(slices.Clone(most), unsigned), api.ErrSeal},
		{"not signed ahead", "jb1", append([]string{unsigned}, most...), api.ErrSeal},
		{"none at all", "jb1", nil, api.ErrCert},
		{"a proposal", "jb1", append(slices.Clone(most), s.frame(proposal(1, 0, 3, -1, "jb1"))), api.ErrCert},
		{"a prevote", "jb1", and(prevote(1, 0, 2, "jb1")), api.ErrCert},
		{"a prevote beside enough", "jb1", append(slices.Clone(most), s.frame(prevote(1, 0, 3, "jb1"))), api.ErrCert},
		{"for nothing", "jb1", and(precommitNothing(1, 0, 2)), api.ErrCert},
		{"for nothing beside enough", "jb1", append(slices.Clone(most), s.frame(precommitNothing(1, 0, 3))), api.ErrCert},
		{"for nothing, not for the empty block", "", s.frames(from(precommitNothing(1, 0, 0), 0, 1, 2, 3)...), api.ErrCert},
		{"for the empty block", "jb1", s.frames(from(precommit(1, 0, 0, ""), 0, 1, 2, 3)...), api.ErrCert},
		{"for another block", "jb2", most, api.ErrCert},
		{"for another block beside enough", "jb1", append(slices.Clone(most), s.frame(precommit(1, 0, 3, "jb2"))), api.ErrCert},
		{"for a part of the block", "jb1,jc1", most, api.ErrCert},
		{"another height", "jb1", s.frames(from(precommit(2, 0, 0, "jb1"), 0, 1, 2, 3)...), api.ErrCert},
		{"the height below", "jb1", s.frames(from(precommit(0, 0, 0, "jb1"), 0, 1, 2, 3)...), api.ErrCert},
		{"one of another height beside enough", "jb1", append(slices.Clone(most), s.frame(precommit(2, 0, 3, "jb1"))), api.ErrCert},
		{"two rounds", "jb1", and(precommit(1, 1, 2, "jb1")), api.ErrCert},
		{"another round beside enough", "jb1", append(slices.Clone(most), s.frame(precommit(1, 1, 3, "jb1"))), api.ErrCert},
		{"another round first", "jb1", append(s.frames(precommit(1, 1, 3, "jb1")), most...), api.ErrCert},
		{"twice the same", "jb1", append(slices.Clone(most), most[1]), api.ErrCert},
		{"twice the same, else too few", "jb1", and(precommit(1, 0, 1, "jb1")), api.ErrCert},
		{"one sender in two rounds", "jb1", append(slices.Clone(most), s.frame(precommit(1, 1, 1, "jb1"))), api.ErrCert},
		{"twice one without power", "jb1", append(slices.Clone(most), s.frames(from(precommit(1, 0, 0, "jb1"), 7, 7)...)...), api.ErrCert},
	} {
		s.rejects(c.why, c.block, c.frames, c.want)
	}
	s.accepts("jb1", 0, 1, 2)
}

// Whoever else has signed a frame, or whatever else its sender has: it is not signed.
func TestP10Seal(t *testing.T) {
	s := follow(t, 1, 1, 1, 1)
	frames := s.frames(from(precommit(0, 0, 0, "ja1"), 0, 1, 2)...)
	s.frame(precommit(0, 1, 3, "ja1"))
	s.frame(prevote(0, 0, 3, "ja1"))
	strange, _ := synod.Encode(precommit(0, 0, 3, "ja1"))
	for id, key := range s.keys {
		if id != 3 {
			key.Sign(strange)
		}
	}
	_, others := ring.New(8)
	others[3].Sign(strange)
	s.rejects("signed by others", "ja1", append(slices.Clone(frames), strange), api.ErrSeal)
	small, keys := ring.New(2)
	c := client(t, small, 1, 1, 1, 1)
	for _, key := range keys {
		for _, frame := range frames {
			key.Sign(frame)
		}
	}
	if err := c.Accept("ja1", frames); !only(err, api.ErrSeal) || c.Height() != 0 {
		t.Errorf("of a ring of two: %v", err)
	}
}

func TestP10AtMaxHeight(t *testing.T) {
	s := follow(t, 1, 1, 1)
	for h := range api.MaxHeight {
		s.accepts([]string{"ja1", "la"}[h%2], 0, 1, 2)
	}
	if s.client.Height() != api.MaxHeight || say(s.client.Registry()) != "11100000  " {
		t.Errorf("at the end: %d, %s", s.client.Height(), say(s.client.Registry()))
	}
	last := s.frames(from(precommit(11, 0, 0, ""), 0, 1, 2)...)
	s.rejects("at the end", "", last, api.ErrCert)
	s.rejects("at the end", "", nil, api.ErrCert)
	s.rejects("at the end", "ja1", s.frames(from(precommit(0, 0, 0, "ja1"), 0, 1, 2)...), api.ErrCert)
	s.rejects("at the end", "la", last, api.ErrRecord)
	s.rejects("at the end", "", append(last, "\x03\x0c\x00\x00\x00\x00"), api.ErrForm)
	unsigned, _ := synod.Encode(precommit(11, 3, 2, ""))
	s.rejects("at the end", "", []string{unsigned}, api.ErrSeal)
}

// Each of four says one of many things, or nothing: what is accepted is what the document says.
func TestP10EveryCertificateOfFour(t *testing.T) {
	genesis := []int{3, 2, 2, 1}
	s := follow(t, genesis...)
	words := []func(int) api.Msg{
		func(id int) api.Msg { return precommit(0, 0, id, "ja1") },
		func(id int) api.Msg { return precommit(0, 1, id, "ja1") },
		func(id int) api.Msg { return precommit(0, 0, id, "ja2") },
		func(id int) api.Msg { return precommit(1, 0, id, "ja1") },
		func(id int) api.Msg { return precommitNothing(0, 0, id) },
		func(id int) api.Msg { return prevote(0, 0, id, "ja1") },
	}
	silent := len(words)
	all := (silent + 1) * (silent + 1) * (silent + 1) * (silent + 1)
	for number := range all {
		var frames []string
		said := map[int]int{} // power, by words
		rest := number
		for id := range genesis {
			if word := rest % (silent + 1); word != silent {
				frames = append(frames, s.frame(words[word](id)))
				said[word] += genesis[id]
			}
			rest /= silent + 1
		}
		if len(said) == 1 && (said[0] >= 6 || said[1] >= 6) {
			c := client(t, s.keys[0].Ring(), genesis...)
			if err := c.Accept("ja1", frames); err != nil || c.Height() != 1 || c.Registry().Names != "a" {
				t.Fatalf("Accept(%q) = %v", frames, err)
			}
		} else {
			s.rejects("every certificate", "ja1", frames, api.ErrCert)
		}
	}
}

// What nodes decide clients accept.
func TestP10AcceptsWhatNodesDecide(t *testing.T) {
	for seed, genesis := range someGenesis {
		w := connect(t, int64(seed), genesis)
		for id, n := range w.nodes {
			n.Submit("j" + string(rune('a'+id)) + "1")
			n.Submit("v" + string(rune('0'+id)) + "9")
		}
		for tick := 0; w.least() < api.MaxHeight && tick < 500; tick++ {
			w.settle()
			w.tick()
		}
		if w.least() < 3 {
			t.Fatalf("seed %d: nodes have decided no more than %d: the test is no good", seed, w.least())
		}
		w.followed(genesis)
	}
}
