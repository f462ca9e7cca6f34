// Package synod: validators that agree, though some of them lie: see DOC.md.
package synod

import (
	"errors"
	"slices"
	"strings"

	"synod/api"
	"synod/journal"
	"synod/outbox"
	"synod/registry"
	"synod/ring"
	"synod/timers"
	"synod/wire"
)

// Encode makes a frame (P3).
func Encode(m api.Msg) (string, error) { return wire.Encode(m) }

// Decode reads a frame (P3).
func Decode(frame string) (api.Msg, error) { return wire.Decode(frame) }

// Fold tells the registry behind blocks (P4).
func Fold(genesis []int, blocks []string) (api.Registry, error) {
	r, err := registry.Genesis(genesis)
	if err != nil {
		return api.Registry{}, err
	}
	for _, block := range blocks {
		r, err = r.Behind(block)
		if err != nil {
			return api.Registry{}, err
		}
	}
	return r.Tell(), nil
}

// Node is a validator, or one who looks on.
type Node struct {
	key      *ring.Key
	registry registry.Registry // behind the blocks that are decided
	decided  []decision        // by heights; as many as there are is the node's height
	waiting  []string          // records
	log      journal.Log       // of the node's height
	ahead    journal.Log       // taken ahead of time, of the next height
	locked   choice
	valid    choice
	turn
	time   int
	timers timers.Heap
	out    outbox.Box
}

// New makes a node (P5).
func New(key *ring.Key, genesis []int) (*Node, error) {
	r, err := registry.Genesis(genesis)
	if err != nil {
		return nil, err
	}
	n := &Node{key: key, registry: r, out: outbox.New()}
	n.beginHeight()
	n.goOn()
	return n, nil
}

// Submit lets a record wait to be proposed (P5).
func (n *Node) Submit(record string) error {
	if !registry.IsRecord(record) {
		return api.ErrRecord
	}
	if len(n.waiting) >= api.MaxPending {
		return api.ErrFull
	}
	n.waiting = append(n.waiting, strings.Clone(record)) // the caller's memory is not kept
	return nil
}

// Receive takes a frame (P7).
func (n *Node) Receive(frame string) error {
	m, err := wire.Open(n.key.Ring(), frame)
	if err != nil {
		return err
	}
	err = n.refusal(m, frame)
	if errors.Is(err, api.ErrPast) {
		n.tellAgain(m.Height)
	}
	if err != nil {
		return &api.Refused{From: m.From, Why: err}
	}
	n.take(journal.Entry{Msg: m, Frame: strings.Clone(frame)}) // the caller's memory is not kept
	n.goOn()
	return nil
}

// Tick lets time go on (P8).
func (n *Node) Tick() {
	n.time++
	for i := range n.decided {
		n.decided[i].told = false
	}
	for t, ok := n.timers.Next(n.time); ok; t, ok = n.timers.Next(n.time) {
		n.expire(t)
		n.goOn()
	}
	if n.time%api.Resend == 0 {
		n.out.Put(n.log.Frames(isOwn)...)
	}
}

// Sent tells what was put out since it was asked last (P8).
func (n *Node) Sent() []string { return n.out.Take() }

// State tells how the node stands (P9).
func (n *Node) State() api.State {
	return api.State{
		Height:      n.height(),
		Round:       n.round,
		Step:        n.step,
		Locked:      n.locked.round,
		Valid:       n.valid.round,
		LockedValue: n.locked.value,
		ValidValue:  n.valid.value,
	}
}

// Decided tells a block that was decided, and its certificate (P9).
func (n *Node) Decided(height int) (string, []string, error) {
	if height < 0 || height >= len(n.decided) {
		return "", nil, api.ErrNone
	}
	d := n.decided[height]
	return d.block, slices.Clone(d.certificate), nil
}

// Registry tells what the decided blocks make (P9).
func (n *Node) Registry() api.Registry { return n.registry.Tell() }

// Client follows by certificates alone.
type Client struct {
	ring     *ring.Ring
	registry registry.Registry // behind the blocks that are accepted
	height   int
}

// Follow makes a client (P10).
func Follow(r *ring.Ring, genesis []int) (*Client, error) {
	first, err := registry.Genesis(genesis)
	if err != nil {
		return nil, err
	}
	return &Client{ring: r, registry: first}, nil
}

// Accept looks at a block and its certificate (P10).
func (c *Client) Accept(block string, certificate []string) error {
	behind, err := c.registry.Behind(block)
	if err != nil {
		return err
	}
	votes, err := openAll(c.ring, certificate)
	if err != nil {
		return why(err)
	}
	if !c.isDecided(block, votes) {
		return api.ErrCert
	}
	c.registry = behind
	c.height++
	return nil
}

// Height tells how many blocks the client has accepted (P10).
func (c *Client) Height() int { return c.height }

// Registry tells what the accepted blocks make (P10).
func (c *Client) Registry() api.Registry { return c.registry.Tell() }

// Blame tells who has signed what nobody may (P10).
func Blame(r *ring.Ring, a []string, b []string) []int {
	var ids []int
	for id, is := range doubleVoters(precommits(r, slices.Concat(a, b))) {
		if is {
			ids = append(ids, id)
		}
	}
	return ids
}
