// Package synod: validators that agree, though some of them lie: see DOC.md.
package synod

import (
	"synod/api"
	"synod/registry"
	"synod/ring"
	"synod/wire"
)

// Encode makes a frame (P3).
func Encode(m api.Msg) (string, error) { return wire.Encode(m) }

// Decode reads a frame (P3).
func Decode(frame string) (api.Msg, error) { return wire.Decode(frame) }

// Fold tells the registry behind blocks (P4).
func Fold(genesis []int, blocks []string) (api.Registry, error) {
	r, err := registry.Genesis(genesis)
	if err != nil {
		return api.Registry{}, err
	}
	for _, block := range blocks {
		r, err = r.Behind(block)
		if err != nil {
			return api.Registry{}, err
		}
	}
	return r.Tell(), nil
}

// Node is a validator, or one who looks on.
type Node struct{}

// New makes a node (P5).
func New(key *ring.Key, genesis []int) (*Node, error) { return nil, nil }

// Submit lets a record wait to be proposed (P5).
func (n *Node) Submit(record string) error { return nil }

// Receive takes a frame (P7).
func (n *Node) Receive(frame string) error { return nil }

// Tick lets time go on (P8).
func (n *Node) Tick() {}

// Sent tells what was put out since it was asked last (P8).
func (n *Node) Sent() []string { return nil }

// State tells how the node stands (P9).
func (n *Node) State() api.State { return api.State{} }

// Decided tells a block that was decided, and its certificate (P9).
func (n *Node) Decided(height int) (string, []string, error) { return "", nil, nil }

// Registry tells what the decided blocks make (P9).
func (n *Node) Registry() api.Registry { return api.Registry{} }

// Client follows by certificates alone.
type Client struct{}

// Follow makes a client (P10).
func Follow(r *ring.Ring, genesis []int) (*Client, error) { return nil, nil }

// Accept looks at a block and its certificate (P10).
func (c *Client) Accept(block string, certificate []string) error { return nil }

// Height tells how many blocks the client has accepted (P10).
func (c *Client) Height() int { return 0 }

// Registry tells what the accepted blocks make (P10).
func (c *Client) Registry() api.Registry { return api.Registry{} }

// Blame tells who has signed what nobody may (P10).
func Blame(r *ring.Ring, a []string, b []string) []int { return nil }
