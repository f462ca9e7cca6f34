package synod_test

import (
	"errors"
	"math"
	"slices"
	"strings"
	"testing"
	"unsafe"

	"synod/api"
	"synod/synod"
)

func allErrors() []error {
	return []error{api.ErrArg, api.ErrForm, api.ErrSeal, api.ErrPast, api.ErrFar, api.ErrOutsider, api.ErrKnown, api.ErrMany, api.ErrFull, api.ErrCert, api.ErrNone, api.ErrRecord}
}

// only tells whether an error is one of api's, and no other one of them.
func only(err, want error) bool {
	for _, e := range allErrors() {
		if errors.Is(err, e) != (e == want) {
			return false
		}
	}
	return err != nil
}

func TestP1OneErrorEach(t *testing.T) {
	if _, err := synod.Encode(api.Msg{}); !only(err, api.ErrForm) {
		t.Errorf("Encode: %v", err)
	}
	if _, err := synod.Decode(""); !only(err, api.ErrForm) {
		t.Errorf("Decode: %v", err)
	}
	if _, err := synod.Fold(nil, nil); !only(err, api.ErrArg) {
		t.Errorf("Fold of no genesis: %v", err)
	}
	if _, err := synod.Fold([]int{1}, []string{"x"}); !only(err, api.ErrRecord) {
		t.Errorf("Fold of no block: %v", err)
	}
}

func TestP1TheErrorNamedFirst(t *testing.T) {
	for _, genesis := range [][]int{nil, {0}, {10}, {-1, 1}, make([]int, 9)} {
		for _, blocks := range [][]string{{"x"}, {"la"}, {"", "ja1", "ja1"}} {
			if _, err := synod.Fold(genesis, blocks); !only(err, api.ErrArg) {
				t.Errorf("Fold(%v, %q): %v, want ErrArg", genesis, blocks, err)
			}
		}
	}
}

func TestP1NothingBesideAnError(t *testing.T) {
	if text, err := synod.Encode(api.Msg{Kind: 2, Height: 12, Value: "ja1"}); text != "" || err == nil {
		t.Errorf("Encode = %q, %v", text, err)
	}
	if m, err := synod.Decode("\x02\x03\x04\x05\x01\x03ja1"); m != (api.Msg{}) || err == nil {
		t.Errorf("Decode = %#v, %v", m, err)
	}
	folds(t, []int{3, 2, 1, 10}, []string{"ja1"}, api.ErrArg)
	folds(t, []int{3, 2, 1}, []string{"ja1,jb2", "v09", "ja2"}, api.ErrRecord)
	folds(t, []int{3, 2, 1}, []string{"ja1,jb2,x"}, api.ErrRecord)
}

func TestP1NoCallPanics(t *testing.T) {
	numbers := []int{math.MinInt, math.MinInt32, -257, -1, 0, 1, 255, 256, 257, math.MaxInt32, math.MaxInt}
	strange := []string{"", ",", "v", "j", "\x00", "\xff\xfe\xfd", "jä1", "v-1", strings.Repeat(",", 1000), strings.Repeat("v", 100000)}
	for _, a := range numbers {
		for _, b := range numbers {
			for _, s := range strange {
				synod.Encode(api.Msg{Kind: 1, Height: a, Round: b, From: a, Valid: b, Value: s})
				synod.Encode(api.Msg{Kind: a, Height: 1, Round: a, From: b, Valid: a, Nil: true, Value: s})
				synod.Fold([]int{a, b, 1}, []string{s, s})
			}
		}
	}
	for _, s := range strange {
		for _, behind := range strange {
			synod.Decode(s + behind)
			synod.Fold([]int{1}, []string{s, behind, s + "," + behind})
		}
	}
	synod.Fold(make([]int, 1<<16), nil)
	synod.Fold([]int{1}, make([]string, 1<<16))
}

func FuzzDecode(f *testing.F) {
	for _, c := range framed {
		f.Add(c.text)
	}
	f.Fuzz(func(t *testing.T, text string) {
		m, err := synod.Decode(text)
		if err != nil {
			refuses(t, "fuzz", text)
		} else if back, wrong := synod.Encode(m); back != text || wrong != nil {
			t.Errorf("Encode(Decode(%q)) = %q, %v", text, back, wrong)
		}
	})
}

func FuzzFold(f *testing.F) {
	f.Add("ja3,v10", "la")
	f.Add("ja3", "ja4")
	f.Fuzz(func(t *testing.T, first, second string) {
		genesis := []int{1, 1, 1}
		if _, err := synod.Fold(genesis, []string{first, second}); err != nil {
			folds(t, genesis, []string{first, second}, api.ErrRecord)
		}
	})
}

func TestP2WhatIsHandedInStays(t *testing.T) {
	for _, block := range []string{"v22,jc3", "x", "v22,jc3,ja1"} {
		genesis := []int{1, 2, 3, 77, 77, 77, 77, 77, 77, 77}
		blocks := []string{"ja1", block, "kept", "kept"}
		synod.Fold(genesis[:3], blocks[:2])
		if !slices.Equal(genesis, []int{1, 2, 3, 77, 77, 77, 77, 77, 77, 77}) {
			t.Errorf("genesis is %v", genesis)
		}
		if !slices.Equal(blocks, []string{"ja1", block, "kept", "kept"}) {
			t.Errorf("blocks are %q", blocks)
		}
	}
}

// Full genesis, so that an answer that were the caller's list itself would be seen.
func TestP2AnswersAreNewMemory(t *testing.T) {
	genesis := []int{1, 2, 3, 4, 5, 6, 7, 8}
	blocks := []string{"ja1,jb2"}
	first, _ := synod.Fold(genesis, blocks)
	second, _ := synod.Fold(genesis, blocks)
	want := say(second)
	genesis[0], blocks[0] = 9, "x"
	if say(first) != want {
		t.Errorf("the answer went along with what was handed in: %s", say(first))
	}
	genesis[0], blocks[0] = 1, "ja1,jb2"
	scribble(first.Powers)
	if !slices.Equal(first.Roles, []int{1, 2}) {
		t.Errorf("powers and roles share memory: %v", first.Roles)
	}
	scribble(first.Roles)
	if !slices.Equal(genesis, []int{1, 2, 3, 4, 5, 6, 7, 8}) || say(second) != want {
		t.Errorf("an answer shares memory: genesis %v, the other answer %s", genesis, say(second))
	}
	if third, _ := synod.Fold(genesis, blocks); say(third) != want {
		t.Errorf("a later answer is %s, want %s", say(third), want)
	}
}

// scribble writes into a list, and into its spare room.
func scribble(list []int) {
	list = list[:cap(list)]
	for i := range list {
		list[i] = -5
	}
}

func TestP2TextsAreNewMemory(t *testing.T) {
	frame := "\x02\x00\x00\x00\x00\x07ja1,jb2"
	m, _ := synod.Decode(frame)
	if m.Value != "ja1,jb2" || within(m.Value, frame) {
		t.Errorf("Decode's value %q keeps the frame", m.Value)
	}
	if text, _ := synod.Encode(m); text != frame || within(m.Value, text) || within(text, frame) {
		t.Errorf("Encode's frame %q shares memory", text)
	}
}

// within tells whether a text's bytes are a piece of another's memory.
func within(text, whole string) bool {
	at := uintptr(unsafe.Pointer(unsafe.StringData(text)))
	start := uintptr(unsafe.Pointer(unsafe.StringData(whole)))
	return at >= start && at < start+uintptr(len(whole))
}
