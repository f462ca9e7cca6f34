package synod_test

import (
	"math/rand"
	"slices"
	"testing"
	"unsafe"

	"synod/api"
	"synod/synod"
)

// Each fault with all those that are named behind it.
func TestP1TheErrorNamedFirstByClients(t *testing.T) {
	s := follow(t, 1, 1, 1, 1)
	unsigned, _ := synod.Encode(precommit(0, 0, 3, "ja1"))
	wrong := s.frame(prevote(5, 9, 2, "x"))
	for _, order := range [][]int{{0, 1, 2}, {0, 2, 1}, {1, 0, 2}, {1, 2, 0}, {2, 0, 1}, {2, 1, 0}} {
		frames := make([]string, 3)
		frames[order[0]], frames[order[1]], frames[order[2]] = "no frame", unsigned, wrong
		s.rejects("all faults", "la", frames, api.ErrRecord)
		s.rejects("no frame", "ja1", frames, api.ErrForm)
		frames[order[0]] = wrong
		s.rejects("not signed", "ja1", frames, api.ErrSeal)
		s.rejects("no block, and not signed", "x", frames, api.ErrRecord)
		frames[order[1]] = wrong
		s.rejects("no certificate", "ja1", frames, api.ErrCert)
		s.rejects("no block, and no certificate", "x", frames, api.ErrRecord)
	}
	s.accepts("ja1", 0, 1, 2)
}

// Anything at all is handed to clients, much of it signed: no call panics, and what they tell is what the accepted blocks make.
func TestP1ClientsStandWhateverIsSaid(t *testing.T) {
	for seed := range int64(60) {
		random := rand.New(rand.NewSource(seed))
		genesis := [][]int{{1, 1, 1, 1}, {1}, {0, 0, 5, 1}, {9, 9, 9, 9, 9, 9, 9, 9}, {1, 2, 3}}[seed%5]
		s := follow(t, genesis...)
		var blocks []string
		for range 300 {
			block := someValues[random.Intn(len(someValues))]
			if random.Intn(20) == 0 {
				block = someTexts[random.Intn(len(someTexts))]
			}
			if s.client.Accept(block, s.anyFrames(random, block)) == nil {
				blocks = append(blocks, block)
			}
			want, err := synod.Fold(genesis, blocks)
			if got := s.client.Registry(); err != nil || s.client.Height() != len(blocks) || len(blocks) > api.MaxHeight || say(got) != say(want) {
				t.Fatalf("seed %d: the height %d, %s, behind %q (%v)", seed, s.client.Height(), say(got), blocks, err)
			}
		}
	}
}

// anyFrames is a certificate at the client's height, or nearly one.
func (s *reading) anyFrames(random *rand.Rand, block string) []string {
	var list []string
	for range random.Intn(12) {
		m := api.Msg{Kind: api.Precommit, Height: min(s.client.Height(), 11), From: len(list) % 8}
		switch random.Intn(60) {
		case 0:
			m.Kind = api.Prevote
		case 1:
			m.Round = random.Intn(256)
		case 2:
			m.From = random.Intn(8)
		case 3:
			m.Height = random.Intn(12)
		}
		if len(block) <= api.MaxValue {
			m.Value = block
		}
		list = append(list, s.frame(m))
		if random.Intn(40) == 0 {
			list = append(list, someTexts[random.Intn(len(someTexts))])
		}
	}
	return list
}

func TestP1BlameStandsWhateverIsSaid(t *testing.T) {
	s := follow(t, 1)
	var all []string
	for _, a := range someTexts {
		for _, b := range someValues {
			all = append(all, a, b, a+b)
			for _, kind := range []byte{0, 1, 2, 3, 4, 255} {
				text := string([]byte{kind, 0, 0, 0, 0, byte(len(b))}) + b
				s.keys[0].Sign(text)
				all = append(all, text, text+a)
			}
		}
	}
	if got := synod.Blame(s.keys[0].Ring(), all, all); !slices.Equal(got, []int{0}) {
		t.Errorf("Blame = %v", got)
	}
	if got := synod.Blame(s.keys[0].Ring(), make([]string, 1<<16), nil); len(got) > 0 {
		t.Errorf("Blame = %v", got)
	}
}

func TestP2ClientsKeepNothing(t *testing.T) {
	s := follow(t, 1)
	whole := []int{1, 1, 1, 1, 77, 77, 77, 77, 77}
	s.client = client(t, s.keys[0].Ring(), whole[:4]...)
	if !slices.Equal(whole, []int{1, 1, 1, 1, 77, 77, 77, 77, 77}) {
		t.Errorf("Follow wrote into genesis: %v", whole)
	}
	scribble(whole)
	if got := say(s.client.Registry()); got != "11110000  " {
		t.Errorf("the client goes along with genesis: %s", got)
	}
	full := []int{1, 1, 1, 1, 0, 0, 0, 0}
	s.client = client(t, s.keys[0].Ring(), full...)
	s.accepts("ja1,v09", 1, 2, 3)
	if full[0] != 1 {
		t.Errorf("the client writes into genesis: %v", full)
	}
}

// Lists that are handed in stay, and what stands behind them, whether they are accepted or not; then their bytes are overwritten: the client does not mind.
func TestP2ClientsKeepNoCertificates(t *testing.T) {
	s := follow(t, 1, 1, 1, 1)
	for _, count := range []int{2, 3, 4} {
		whole := append(s.frames(from(precommit(0, 0, 0, "ja7"), 2, 0, 1, 2)...), "kept", "kept")
		before := slices.Clone(whole)
		if err := s.client.Accept("ja7", whole[:count]); (err == nil) != (count == 3) {
			t.Errorf("Accept of %d = %v", count, err)
		}
		if !slices.Equal(whole, before) {
			t.Errorf("Accept wrote into the certificate: %q", whole)
		}
		s.client = client(t, s.keys[0].Ring(), 1, 1, 1, 1)
	}
	block := []byte("ja7,v02")
	var certificate []string
	var all [][]byte
	for _, frame := range s.frames(from(precommit(0, 0, 0, string(block)), 0, 1, 2)...) {
		b := []byte(frame)
		all = append(all, b)
		certificate = append(certificate, unsafe.String(&b[0], len(b)))
	}
	if err := s.client.Accept(unsafe.String(&block[0], len(block)), certificate); err != nil {
		t.Fatal(err)
	}
	for _, b := range append(all, block) {
		clear(b)
	}
	clear(certificate)
	if got := say(s.client.Registry()); got != "21110000 a 7" {
		t.Errorf("Registry = %s", got)
	}
	s.accepts("la", 0, 1, 2)
}

func TestP2WhatClientsTellIsTheCallers(t *testing.T) {
	s := follow(t, 1, 1, 1, 1)
	s.accepts("ja1,jb2", 0, 1, 2)
	first, second := s.client.Registry(), s.client.Registry()
	want := say(second)
	scribble(first.Powers)
	if !slices.Equal(first.Roles, []int{1, 2}) {
		t.Errorf("powers and roles share memory: %v", first.Roles)
	}
	scribble(first.Roles)
	if say(second) != want || say(s.client.Registry()) != want {
		t.Errorf("Registry = %s and %s behind writing into what it told, want %s", say(second), say(s.client.Registry()), want)
	}
	s.accepts("la", 0, 1, 2)
	if say(second) != want {
		t.Errorf("what was told goes along with the client: %s", say(second))
	}
}

// Two clients on one ring share nothing else, nor do they with nodes.
func TestP2ClientsShareNothing(t *testing.T) {
	s := follow(t, 1, 1, 1, 1)
	other := &reading{s.scene, client(t, s.keys[0].Ring(), 1, 1, 1, 1)}
	s.node = node(t, s.keys[3], 1, 1, 1, 1)
	s.accepts("ja1,v09", 0, 1, 2)
	s.accepts("v19", 0)
	s.stands("the node", free(0, 0, api.Propose))
	if other.client.Height() != 0 || say(other.client.Registry()) != "11110000  " {
		t.Errorf("the other client is at %d with %s", other.client.Height(), say(other.client.Registry()))
	}
	other.accepts("jb1", 1, 2, 3)
	if say(s.client.Registry()) != "99110000 a 1" || say(other.client.Registry()) != "11110000 b 1" {
		t.Errorf("they share: %s, %s", say(s.client.Registry()), say(other.client.Registry()))
	}
}

func TestP2BlameKeepsNothing(t *testing.T) {
	s := follow(t, 1)
	a := append(s.frames(from(precommit(0, 0, 0, "jb1"), 5, 0, 1, 3)...), "kept", "kept", "kept", "kept")
	b := append(s.frames(from(precommit(0, 0, 0, "ja1"), 7, 3, 0)...), "kept", "kept")
	wholeA, wholeB := slices.Clone(a), slices.Clone(b)
	first := synod.Blame(s.keys[0].Ring(), a[:4], b[:3])
	second := synod.Blame(s.keys[0].Ring(), a[:4], b[:3])
	if !slices.Equal(a, wholeA) || !slices.Equal(b, wholeB) {
		t.Errorf("Blame wrote into what was handed in: %q, %q", a, b)
	}
	scribble(first)
	if !slices.Equal(second, []int{0, 3}) || !slices.Equal(synod.Blame(s.keys[0].Ring(), a[:4], b[:3]), second) {
		t.Errorf("Blame = %v: its answers share memory", second)
	}
}
