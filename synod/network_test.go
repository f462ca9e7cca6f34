package synod_test

import (
	"math/rand"
	"slices"
	"testing"

	"synod/api"
	"synod/ring"
	"synod/synod"
)

// network carries frames between nodes, and loses, doubles and delays some.
type network struct {
	t      *testing.T
	random *rand.Rand
	keys   []*ring.Key
	nodes  []*synod.Node // nil: one who lies
	late   []letter
	heard  []string // all that was ever sent, for those who lie
}

type letter struct {
	to    int
	frame string
}

func connect(t *testing.T, seed int64, genesis []int, liars ...int) *network {
	t.Helper()
	_, keys := ring.New(len(genesis))
	w := &network{t: t, random: rand.New(rand.NewSource(seed)), keys: keys}
	for id, key := range keys {
		if slices.Contains(liars, id) {
			w.nodes = append(w.nodes, nil)
		} else {
			w.nodes = append(w.nodes, node(t, key, genesis...))
		}
	}
	return w
}

// carry brings everything that is out to all others; each frame is lost or late in so many of ten cases, and sometimes doubled. It tells how many frames there were.
func (w *network) carry(lost, late int) int {
	letters := w.late
	w.late = nil
	for from, n := range w.nodes {
		if n == nil {
			continue
		}
		for _, frame := range n.Sent() {
			w.heard = append(w.heard, frame)
			for to := range w.nodes {
				if to != from {
					letters = append(letters, letter{to, frame})
				}
			}
		}
	}
	w.random.Shuffle(len(letters), func(i, j int) { letters[i], letters[j] = letters[j], letters[i] })
	for _, l := range letters {
		switch x := w.random.Intn(10); {
		case w.nodes[l.to] == nil || x < lost:
		case x < lost+late:
			w.late = append(w.late, l)
		default:
			w.nodes[l.to].Receive(l.frame)
			if late > 0 && w.random.Intn(5) == 0 {
				w.late = append(w.late, l)
			}
		}
	}
	return len(letters)
}

// settle brings everything to everybody, till there is nothing more.
func (w *network) settle() {
	for range 1000 {
		if w.carry(0, 0) == 0 {
			return
		}
	}
	w.t.Fatal("the network does not come to rest")
}

// lie lets one who lies sign what suits it, and tell each something else.
func (w *network) lie(liar, height int) {
	values := []string{"", "ja1", "jb1"}
	for _, frame := range w.heard[max(0, len(w.heard)-8):] {
		if m, err := synod.Decode(frame); err == nil && m.Height == height && !slices.Contains(values, m.Value) {
			values = append(values, m.Value)
		}
	}
	for to, n := range w.nodes {
		if n == nil || w.random.Intn(2) == 0 {
			continue
		}
		m := api.Msg{Kind: 1 + w.random.Intn(3), Height: height, Round: min(n.State().Round+w.random.Intn(3), 255), From: liar, Value: values[w.random.Intn(len(values))]}
		if m.Kind == api.Proposal {
			m.Valid = w.random.Intn(m.Round+1) - 1
		} else if w.random.Intn(3) == 0 {
			m.Nil, m.Value = true, ""
		}
		w.late = append(w.late, letter{to, signed(w.t, w.keys, m)})
	}
}

func (w *network) tick() {
	for _, n := range w.nodes {
		if n != nil {
			n.Tick()
		}
	}
}

// agree sees that no two nodes have decided two blocks for one height.
func (w *network) agree() {
	w.t.Helper()
	for h := range api.MaxHeight {
		var blocks []string
		for _, n := range w.nodes {
			if n == nil {
				continue
			}
			if block, _, err := n.Decided(h); err == nil && !slices.Contains(blocks, block) {
				blocks = append(blocks, block)
			}
		}
		if len(blocks) > 1 {
			w.t.Fatalf("the height %d is decided as %q", h, blocks)
		}
	}
}

func (w *network) least() int {
	least := api.MaxHeight
	for _, n := range w.nodes {
		if n != nil {
			least = min(least, n.State().Height)
		}
	}
	return least
}

var someGenesis = [][]int{{1, 1, 1, 1}, {1, 1, 1}, {3, 2, 2, 1}, {5, 1, 1}, {1, 1}, {1, 2, 3, 4, 5, 6, 7, 8}, {1, 0, 1, 1, 1}}

// fold holds the nodes' registries against what their blocks make.
func (w *network) fold(genesis []int) {
	w.t.Helper()
	for _, n := range w.nodes {
		if n == nil {
			continue
		}
		var blocks []string
		for h := range n.State().Height {
			block, _, _ := n.Decided(h)
			blocks = append(blocks, block)
		}
		want, err := synod.Fold(genesis, blocks)
		if got := n.Registry(); say(got) != say(want) || err != nil {
			w.t.Fatalf("Registry = %s, want %s (%v)", say(got), say(want), err)
		}
	}
}
