package synod_test

import (
	"errors"
	"math"
	"strings"
	"testing"

	"synod/api"
	"synod/synod"
)

// Messages that have a frame, and it: the document's example, and both ends of each part.
var framed = []struct {
	name string
	msg  api.Msg
	text string
}{
	{"example: a proposal", api.Msg{Kind: api.Proposal, Height: 1, Round: 2, From: 3, Valid: 0, Value: "ja1"}, "\x01\x01\x02\x03\x01\x03ja1"},
	{"example: a prevote for nothing", api.Msg{Kind: api.Prevote, From: 5, Nil: true}, "\x02\x00\x00\x05\x01\x00"},
	{"a precommit for nothing", api.Msg{Kind: api.Precommit, Height: 11, Round: 255, From: 7, Nil: true}, "\x03\x0b\xff\x07\x01\x00"},
	{"a vote for the empty block", api.Msg{Kind: api.Prevote, Height: 3, Round: 4, From: 5}, "\x02\x03\x04\x05\x00\x00"},
	{"a proposal without a valid round", api.Msg{Kind: api.Proposal, Valid: -1}, "\x01\x00\x00\x00\x00\x00"},
	{"the first valid round", api.Msg{Kind: api.Proposal, Round: 1}, "\x01\x00\x01\x00\x01\x00"},
	{"the last valid round", api.Msg{Kind: api.Proposal, Round: 255, Valid: 254}, "\x01\x00\xff\x00\xff\x00"},
	{"a round above MaxRound", api.Msg{Kind: api.Precommit, Round: api.MaxRound + 1, Value: "v20"}, "\x03\x00\x15\x00\x00\x03v20"},
	{"a value that is no block", api.Msg{Kind: api.Prevote, Value: "\x00\xff\n"}, "\x02\x00\x00\x00\x00\x03\x00\xff\n"},
	{"the longest value", api.Msg{Kind: api.Proposal, Valid: -1, Value: strings.Repeat("x", 24)}, "\x01\x00\x00\x00\x00\x18" + strings.Repeat("x", 24)},
}

func TestP3FramesOfMessages(t *testing.T) {
	for _, c := range framed {
		if text, err := synod.Encode(c.msg); text != c.text || err != nil {
			t.Errorf("%s: Encode = %q, %v, want %q", c.name, text, err, c.text)
		}
		if m, err := synod.Decode(c.text); m != c.msg || err != nil {
			t.Errorf("%s: Decode = %#v, %v, want %#v", c.name, m, err, c.msg)
		}
	}
}

func TestP3MessagesWithoutFrame(t *testing.T) {
	long := strings.Repeat("x", 25)
	for _, c := range []struct {
		name string
		msg  api.Msg
	}{
		{"no kind", api.Msg{}},
		{"kind above", api.Msg{Kind: 4}},
		{"kind below", api.Msg{Kind: -1}},
		{"kind a byte round", api.Msg{Kind: 256 + api.Prevote}},
		{"height above", api.Msg{Kind: api.Prevote, Height: 12}},
		{"height below", api.Msg{Kind: api.Prevote, Height: -1}},
		{"height a byte round", api.Msg{Kind: api.Prevote, Height: 256}},
		{"round above", api.Msg{Kind: api.Prevote, Round: 256}},
		{"round below", api.Msg{Kind: api.Prevote, Round: -1}},
		{"sender above", api.Msg{Kind: api.Prevote, From: 8}},
		{"sender below", api.Msg{Kind: api.Prevote, From: -1}},
		{"sender a byte round", api.Msg{Kind: api.Prevote, From: 256}},
		{"a prevote's valid round", api.Msg{Kind: api.Prevote, Round: 3, Valid: 1}},
		{"a precommit's valid round", api.Msg{Kind: api.Precommit, Round: 3, Valid: -1}},
		{"a prevote for nothing and a value", api.Msg{Kind: api.Prevote, Nil: true, Value: "ja1"}},
		{"a precommit for nothing and a value", api.Msg{Kind: api.Precommit, Nil: true, Value: "ja1"}},
		{"a proposal for nothing", api.Msg{Kind: api.Proposal, Valid: -1, Nil: true}},
		{"valid round 0 in round 0", api.Msg{Kind: api.Proposal}},
		{"valid round of the round", api.Msg{Kind: api.Proposal, Round: 5, Valid: 5}},
		{"valid round above the round", api.Msg{Kind: api.Proposal, Round: 5, Valid: 6}},
		{"valid round below -1", api.Msg{Kind: api.Proposal, Round: 5, Valid: -2}},
		{"valid round a byte round", api.Msg{Kind: api.Proposal, Round: 5, Valid: 255}},
		{"a proposal's long value", api.Msg{Kind: api.Proposal, Valid: -1, Value: long}},
		{"a prevote's long value", api.Msg{Kind: api.Prevote, Value: long}},
		{"a precommit's long value", api.Msg{Kind: api.Precommit, Value: long}},
		{"a value of a byte round", api.Msg{Kind: api.Prevote, Value: strings.Repeat("x", 256)}},
	} {
		if text, err := synod.Encode(c.msg); text != "" || !errors.Is(err, api.ErrForm) {
			t.Errorf("%s: Encode(%#v) = %q, %v", c.name, c.msg, text, err)
		}
	}
}

func TestP3TextsThatAreNoFrame(t *testing.T) {
	for _, c := range []struct {
		name string
		text string
	}{
		{"nothing", ""},
		{"a vote's mark above 1", "\x02\x00\x00\x00\x02\x00"},
		{"a precommit's mark above 1", "\x03\x00\x00\x00\xff\x00"},
		{"a vote for nothing with a value", "\x02\x00\x00\x00\x01\x01x"},
		{"a valid round that is the round", "\x01\x00\x03\x00\x04\x00"},
		{"a valid round in round 0", "\x01\x00\x00\x00\x01\x00"},
		{"a value too long", "\x02\x00\x00\x00\x00\x19" + strings.Repeat("x", 25)},
		{"a size that is not there", "\x02\x00\x00\x00\x00\xff"},
		{"a value of 256 bytes, size 0", "\x02\x00\x00\x00\x00\x00" + strings.Repeat("x", 256)},
	} {
		refuses(t, c.name, c.text)
	}
	for _, c := range framed {
		for n := range len(c.text) {
			refuses(t, c.name+", cut", c.text[:n])
		}
		refuses(t, c.name+", a byte behind", c.text+"\x00")
		refuses(t, c.name+", twice", c.text+c.text)
	}
}

func refuses(t *testing.T, name, text string) {
	t.Helper()
	if m, err := synod.Decode(text); m != (api.Msg{}) || !errors.Is(err, api.ErrForm) {
		t.Errorf("%s: Decode(%q) = %#v, %v", name, text, m, err)
	}
}

// Each two bytes of a frame's head take all values: Decode holds to the document's words for each, and Encode leads back.
func TestP3AllPairsOfHeadBytes(t *testing.T) {
	for _, start := range []string{"\x01\x01\x02\x03\x01\x03ja1", "\x01\x00\x00\x00\x00\x00", "\x02\x00\x00\x05\x01\x00", "\x03\x04\x14\x00\x00\x01x"} {
		for i := range 6 {
			for j := range i {
				for x := range 65536 {
					b := []byte(start)
					b[i], b[j] = byte(x), byte(x>>8)
					checkFrame(t, string(b))
				}
			}
		}
	}
}

func checkFrame(t *testing.T, text string) {
	t.Helper()
	m, err := synod.Decode(text)
	if !isFrame(text) {
		if m != (api.Msg{}) || !errors.Is(err, api.ErrForm) {
			t.Fatalf("Decode(%q) = %#v, %v, want ErrForm", text, m, err)
		}
		return
	}
	want := api.Msg{Kind: int(text[0]), Height: int(text[1]), Round: int(text[2]), From: int(text[3]), Value: text[6:]}
	if text[0] == 1 {
		want.Valid = int(text[4]) - 1
	} else {
		want.Nil = text[4] == 1
	}
	if m != want || err != nil {
		t.Fatalf("Decode(%q) = %#v, %v, want %#v", text, m, err, want)
	}
	if back, err := synod.Encode(m); back != text || err != nil {
		t.Fatalf("Encode(%#v) = %q, %v, want %q", m, back, err, text)
	}
}

// isFrame says the document's words again, of a text that has a head.
func isFrame(text string) bool {
	kind, mark, size := text[0], text[4], int(text[5])
	if kind < 1 || kind > 3 || text[1] > 11 || text[3] > 7 || size > 24 || size != len(text)-6 {
		return false
	}
	if kind == 1 {
		return int(mark)-1 < int(text[2])
	}
	return mark == 0 || mark == 1 && size == 0
}

// A message out of all edges has a frame that Decode leads back from, or none at all.
func TestP3AllEdgesOfMessages(t *testing.T) {
	edges := []int{math.MinInt, -256, -2, -1, 0, 1, 2, 3, 4, 7, 8, 11, 12, 254, 255, 256, math.MaxInt}
	values := []string{"", "x", strings.Repeat("x", 24), strings.Repeat("x", 25)}
	for x := range len(edges) * len(edges) * len(edges) {
		a, b, c := edges[x%17], edges[x/17%17], edges[x/289]
		for _, value := range values {
			for _, isNil := range []bool{false, true} {
				checkMessage(t, api.Msg{Kind: a, Height: b, From: c, Round: 1, Nil: isNil, Value: value})
				checkMessage(t, api.Msg{Kind: a, Round: b, Valid: c, Nil: isNil, Value: value})
			}
		}
	}
}

func checkMessage(t *testing.T, m api.Msg) {
	t.Helper()
	good := m.Kind >= 1 && m.Kind <= 3 && m.Height >= 0 && m.Height < 12 && m.Round >= 0 && m.Round < 256 && m.From >= 0 && m.From < 8 && len(m.Value) <= 24
	if m.Kind == 1 {
		good = good && -1 <= m.Valid && m.Valid < m.Round && !m.Nil
	} else {
		good = good && m.Valid == 0 && (m.Value == "" || !m.Nil)
	}
	text, err := synod.Encode(m)
	if !good {
		if text != "" || !errors.Is(err, api.ErrForm) {
			t.Fatalf("Encode(%#v) = %q, %v, want ErrForm", m, text, err)
		}
		return
	}
	if back, wrong := synod.Decode(text); back != m || err != nil || wrong != nil {
		t.Fatalf("Decode(Encode(%#v)) = %#v, %v, %v", m, back, err, wrong)
	}
}
