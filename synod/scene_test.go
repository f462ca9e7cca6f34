package synod_test

import (
	"errors"
	"slices"
	"testing"

	"synod/api"
	"synod/ring"
	"synod/synod"
)

// scene is a node, and the keys of all, so that a test can say anything in anybody's name.
type scene struct {
	t    *testing.T
	keys []*ring.Key
	node *synod.Node
}

func enter(t *testing.T, id int, genesis ...int) *scene {
	t.Helper()
	_, keys := ring.New(api.MaxIds + 2)
	return &scene{t, keys, node(t, keys[id], genesis...)}
}

func node(t *testing.T, key *ring.Key, genesis ...int) *synod.Node {
	t.Helper()
	n, err := synod.New(key, genesis)
	if n == nil || err != nil {
		t.Fatalf("New(%d, %v) = %v, %v", key.Id(), genesis, n, err)
	}
	return n
}

func proposal(height, round, from, valid int, value string) api.Msg {
	return api.Msg{Kind: api.Proposal, Height: height, Round: round, From: from, Valid: valid, Value: value}
}

func prevote(height, round, from int, value string) api.Msg {
	return api.Msg{Kind: api.Prevote, Height: height, Round: round, From: from, Value: value}
}

func prevoteNothing(height, round, from int) api.Msg {
	return api.Msg{Kind: api.Prevote, Height: height, Round: round, From: from, Nil: true}
}

func precommit(height, round, from int, value string) api.Msg {
	return api.Msg{Kind: api.Precommit, Height: height, Round: round, From: from, Value: value}
}

func precommitNothing(height, round, from int) api.Msg {
	return api.Msg{Kind: api.Precommit, Height: height, Round: round, From: from, Nil: true}
}

// from says a message again in the names of others.
func from(m api.Msg, ids ...int) []api.Msg {
	var list []api.Msg
	for _, id := range ids {
		m.From = id
		list = append(list, m)
	}
	return list
}

// free is how a node stands that is neither locked nor has a valid value.
func free(height, round, step int) api.State {
	return api.State{Height: height, Round: round, Step: step, Locked: -1, Valid: -1}
}

// signed makes a message's frame, and signs it with its sender's key.
func signed(t *testing.T, keys []*ring.Key, m api.Msg) string {
	t.Helper()
	text, err := synod.Encode(m)
	if err != nil {
		t.Fatalf("Encode(%+v): %v", m, err)
	}
	keys[m.From].Sign(text)
	return text
}

func (s *scene) frame(m api.Msg) string {
	s.t.Helper()
	return signed(s.t, s.keys, m)
}

func (s *scene) frames(list ...api.Msg) []string {
	s.t.Helper()
	var frames []string
	for _, m := range list {
		frames = append(frames, s.frame(m))
	}
	return frames
}

func (s *scene) takes(list ...api.Msg) {
	s.t.Helper()
	for _, m := range list {
		if err := s.node.Receive(s.frame(m)); err != nil {
			s.t.Fatalf("Receive(%+v): %v", m, err)
		}
	}
}

func (s *scene) submits(records ...string) {
	s.t.Helper()
	for _, r := range records {
		if err := s.node.Submit(r); err != nil {
			s.t.Fatalf("Submit(%q): %v", r, err)
		}
	}
}

func (s *scene) ticks(count int) {
	for range count {
		s.node.Tick()
	}
}

// sent asks what was put out.
func (s *scene) sent() []api.Msg {
	s.t.Helper()
	var list []api.Msg
	for _, text := range s.node.Sent() {
		m, err := synod.Decode(text)
		if err != nil {
			s.t.Fatalf("Sent tells %q: %v", text, err)
		}
		if !s.keys[0].Ring().Signed(m.From, text) {
			s.t.Fatalf("Sent tells %+v, which nobody has signed", m)
		}
		list = append(list, m)
	}
	return list
}

// sends holds what was put out since the last time against what is wanted.
func (s *scene) sends(why string, want ...api.Msg) {
	s.t.Helper()
	if got := s.sent(); !slices.Equal(got, want) {
		s.t.Fatalf("%s: sent\n%+v, want\n%+v", why, got, want)
	}
}

func (s *scene) stands(why string, want api.State) {
	s.t.Helper()
	if got := s.node.State(); got != want {
		s.t.Fatalf("%s: stands %+v, want %+v", why, got, want)
	}
}

// decided holds a height's block and certificate against what is wanted.
func (s *scene) decided(height int, block string, certificate ...api.Msg) {
	s.t.Helper()
	got, frames, err := s.node.Decided(height)
	if want := s.frames(certificate...); got != block || !slices.Equal(frames, want) || err != nil {
		s.t.Fatalf("Decided(%d) = %q, %q, %v, want %q, %q", height, got, frames, err, block, want)
	}
}

func (s *scene) undecided(height int) {
	s.t.Helper()
	block, frames, err := s.node.Decided(height)
	if block != "" || len(frames) > 0 || !only(err, api.ErrNone) {
		s.t.Fatalf("Decided(%d) = %q, %q, %v, want ErrNone", height, block, frames, err)
	}
}

// refuses holds what Receive answers against an error, and sees that nothing changes.
func (s *scene) refuses(text string, sender int, want error) {
	s.t.Helper()
	before, registry := s.node.State(), say(s.node.Registry())
	err := s.node.Receive(text)
	var refused *api.Refused
	if !only(err, want) || !errors.As(err, &refused) || refused.From != sender {
		s.t.Fatalf("Receive(%q) = %v, want %v from %d", text, err, want, sender)
	}
	if s.node.State() != before || say(s.node.Registry()) != registry {
		s.t.Fatalf("Receive(%q): stands %+v behind an error, %+v ahead of it", text, s.node.State(), before)
	}
}

func (s *scene) refusesMsg(m api.Msg, want error) {
	s.t.Helper()
	s.refuses(s.frame(m), m.From, want)
}
