package synod_test

import (
	"math/rand"
	"slices"
	"testing"

	"synod/api"
	"synod/ring"
	"synod/synod"
)

func TestP10Blame(t *testing.T) {
	s := follow(t, 1)
	unsigned, _ := synod.Encode(precommit(0, 0, 4, "jb1"))
	for _, c := range []struct {
		why  string
		a, b []string
		want []int
	}{
		{"nobody", nil, nil, nil},
		{"one vote", s.frames(precommit(0, 0, 1, "ja1")), nil, nil},
		{"the same twice", s.frames(precommit(0, 0, 1, "ja1")), s.frames(precommit(0, 0, 1, "ja1")), nil},
		{"nothing twice", s.frames(from(precommitNothing(0, 0, 1), 1, 1)...), s.frames(precommitNothing(0, 0, 1)), nil},
		{"two values", s.frames(precommit(0, 0, 1, "ja1")), s.frames(precommit(0, 0, 1, "jb1")), []int{1}},
		{"two values in the first", s.frames(precommit(0, 0, 1, "ja1"), precommit(0, 0, 1, "jb1")), nil, []int{1}},
		{"two values in the second", nil, s.frames(precommit(0, 0, 1, "ja1"), precommit(0, 0, 1, "jb1")), []int{1}},
		{"a value and nothing", s.frames(precommit(0, 0, 1, "ja1")), s.frames(precommitNothing(0, 0, 1)), []int{1}},
		{"nothing and a value", s.frames(precommitNothing(0, 0, 1)), s.frames(precommit(0, 0, 1, "ja1")), []int{1}},
		{"the empty block and nothing", s.frames(precommit(0, 0, 0, "")), s.frames(precommitNothing(0, 0, 0)), []int{0}},
		{"the empty block and another one", s.frames(precommit(0, 0, 7, "")), s.frames(precommit(0, 0, 7, "ja1")), []int{7}},
		{"values that are no blocks", s.frames(precommit(11, 255, 6, "x")), s.frames(precommit(11, 255, 6, "y")), []int{6}},
		{"the third one", s.frames(from(precommit(0, 0, 1, "ja1"), 1, 1)...), s.frames(precommit(0, 0, 1, "jb1")), []int{1}},
		{"three values", s.frames(precommit(0, 0, 1, "ja1"), precommit(0, 0, 1, "jb1"), precommit(0, 0, 1, "jc1")), nil, []int{1}},
		{"back to the first", s.frames(precommit(0, 0, 1, "ja1"), precommit(0, 0, 1, "jb1"), precommit(0, 0, 1, "ja1")), nil, []int{1}},
		{"two heights", s.frames(precommit(0, 0, 1, "ja1")), s.frames(precommit(1, 0, 1, "jb1")), nil},
		{"two rounds", s.frames(precommit(0, 0, 1, "ja1")), s.frames(precommit(0, 1, 1, "jb1")), nil},
		{"two senders", s.frames(precommit(0, 0, 1, "ja1")), s.frames(precommit(0, 0, 2, "jb1")), nil},
		{"prevotes", s.frames(prevote(0, 0, 1, "ja1")), s.frames(prevote(0, 0, 1, "jb1")), nil},
		{"proposals", s.frames(proposal(0, 0, 1, -1, "ja1")), s.frames(proposal(0, 0, 1, -1, "jb1")), nil},
		{"a prevote and a precommit", s.frames(prevote(0, 0, 1, "ja1")), s.frames(precommit(0, 0, 1, "jb1")), nil},
		{"a proposal and a precommit", s.frames(proposal(0, 0, 1, -1, "ja1")), s.frames(precommit(0, 0, 1, "jb1")), nil},
		{"one that is not signed", s.frames(precommit(0, 0, 4, "ja1")), []string{unsigned}, nil},
		{"one that is not signed first", []string{unsigned}, s.frames(precommit(0, 0, 4, "ja1")), nil},
		{"no frame", []string{s.frame(precommit(0, 0, 1, "ja1"))}, []string{"", "x", s.frame(precommit(0, 0, 1, "ja1")) + "x"}, nil},
		{"no frame on the way", []string{"x", s.frame(precommit(0, 0, 1, "ja1"))}, []string{"", s.frame(precommit(0, 0, 1, "jb1")), unsigned}, []int{1}},
		{"rising", s.frames(from(precommit(3, 2, 0, "ja1"), 5, 0, 7, 2, 3)...), s.frames(from(precommit(3, 2, 0, "jb1"), 7, 3, 0, 1, 5)...), []int{0, 3, 5, 7}},
		{"each once", s.frames(from(precommit(3, 2, 0, "ja1"), 5, 4, 5)...), s.frames(precommit(3, 2, 5, "jb1"), precommit(4, 1, 5, "jb1"), precommitNothing(4, 1, 5), precommitNothing(4, 1, 4)), []int{5}},
		{"in different rounds", s.frames(precommit(0, 0, 6, "ja1"), precommit(1, 3, 2, "ja1")), s.frames(precommit(0, 0, 6, "jb1"), precommitNothing(1, 3, 2)), []int{2, 6}},
	} {
		if got := synod.Blame(s.keys[0].Ring(), c.a, c.b); !slices.Equal(got, c.want) {
			t.Errorf("%s: Blame = %v, want %v", c.why, got, c.want)
		}
	}
}

// A frame that another has signed, or another ring, is nobody's.
func TestP10BlameByTheRing(t *testing.T) {
	s := follow(t, 1)
	a := s.frames(from(precommit(0, 0, 0, "ja1"), 0, 1, 2)...)
	b := s.frames(from(precommit(0, 0, 0, "jb1"), 0, 1, 2)...)
	if got := synod.Blame(s.keys[0].Ring(), a, b); !slices.Equal(got, []int{0, 1, 2}) {
		t.Errorf("Blame = %v", got)
	}
	small, keys := ring.New(2)
	if got := synod.Blame(small, a, b); len(got) > 0 {
		t.Errorf("Blame = %v of a ring on which nobody has signed", got)
	}
	for _, frame := range append(slices.Clone(a), b...) {
		keys[1].Sign(frame)
	}
	if got := synod.Blame(small, a, b); !slices.Equal(got, []int{1}) {
		t.Errorf("Blame = %v of a ring on which 1 has signed", got)
	}
	empty, _ := ring.New(0)
	if got := synod.Blame(empty, a, b); len(got) > 0 {
		t.Errorf("Blame = %v of an empty ring", got)
	}
}

// Every pair of frames is looked at, as the document says it.
func TestP10BlameEveryPair(t *testing.T) {
	for seed := range int64(300) {
		random := rand.New(rand.NewSource(seed))
		s := follow(t, 1)
		var lists [2][]string
		var signed []api.Msg
		for range random.Intn(30) {
			m := api.Msg{Kind: api.Prevote + random.Intn(2), Height: random.Intn(2), Round: random.Intn(3), From: random.Intn(8), Value: []string{"", "ja1", "x"}[random.Intn(3)]}
			if random.Intn(3) == 0 {
				m.Nil, m.Value = true, ""
			}
			text, _ := synod.Encode(m)
			if random.Intn(5) > 0 {
				text = s.frame(m)
			}
			side := random.Intn(2)
			lists[side] = append(lists[side], text)
			if random.Intn(9) == 0 {
				lists[side] = append(lists[side], text[:random.Intn(6)])
			}
		}
		for _, text := range slices.Concat(lists[0], lists[1]) { // signed is signed, whenever
			if m, err := synod.Decode(text); err == nil && s.keys[0].Ring().Signed(m.From, text) {
				signed = append(signed, m)
			}
		}
		if got, want := synod.Blame(s.keys[0].Ring(), lists[0], lists[1]), doubles(signed); !slices.Equal(got, want) {
			t.Fatalf("seed %d: Blame(%q, %q) = %v, want %v", seed, lists[0], lists[1], got, want)
		}
	}
}

// doubles tells who has said two things in one place, by looking at all pairs.
func doubles(list []api.Msg) []int {
	var ids []int
	for _, a := range list {
		for _, b := range list {
			both := a.Kind == api.Precommit && b.Kind == api.Precommit && a.From == b.From && a.Height == b.Height && a.Round == b.Round
			if both && (a.Nil != b.Nil || a.Value != b.Value) && !slices.Contains(ids, a.From) {
				ids = append(ids, a.From)
			}
		}
	}
	slices.Sort(ids)
	return ids
}
