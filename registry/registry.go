// Package registry has the powers of the validators and the members, and how blocks of records change them.
package registry

import (
	"strings"

	"synod/api"
)

const letters = 'z' - 'a' + 1

// Registry is a value: a copy of it shares nothing with it, so that a block that turns out bad leaves no trace.
type Registry struct {
	powers [api.MaxIds]int
	roles  [letters]int // by names; 0: no member
}

// Genesis makes the registry ahead of all blocks.
func Genesis(powers []int) (Registry, error) {
	var r Registry
	if len(powers) > len(r.powers) {
		return Registry{}, api.ErrArg
	}
	for id, p := range powers {
		if p < 0 || p > api.MaxPower {
			return Registry{}, api.ErrArg
		}
		r.powers[id] = p
	}
	if r.total() == 0 {
		return Registry{}, api.ErrArg
	}
	return r, nil
}

// Behind is the registry behind a block; ErrRecord, if the block is none, or not good here.
func (r Registry) Behind(block string) (Registry, error) {
	if block == "" {
		return r, nil
	}
	// One piece more than may be is enough to see that there are too many.
	texts := strings.SplitN(block, ",", api.MaxRecords+1)
	if len(texts) > api.MaxRecords {
		return Registry{}, api.ErrRecord
	}
	changes := 0 // of powers
	for _, text := range texts {
		c, ok := readRecord(text)
		if !ok || !r.may(c) {
			return Registry{}, api.ErrRecord
		}
		if c.kind == power {
			changes++
		}
		r = r.with(c)
	}
	if changes > 1 {
		return Registry{}, api.ErrRecord
	}
	return r, nil
}

// may tells whether a record may be in this registry.
func (r Registry) may(c record) bool {
	switch c.kind {
	case join:
		return r.roles[c.index] == 0
	case leave:
		return r.roles[c.index] != 0
	case role:
		return r.roles[c.index] != 0 && r.roles[c.index] != c.number
	case power:
		return r.powers[c.index] != c.number && r.with(c).total() > 0
	}
	return false
}

// with is the registry behind a record that may be.
func (r Registry) with(c record) Registry {
	if c.kind == power {
		r.powers[c.index] = c.number
	} else {
		r.roles[c.index] = c.number
	}
	return r
}

// total is the power of all.
func (r Registry) total() int {
	sum := 0
	for _, p := range r.powers {
		sum += p
	}
	return sum
}

// Tell makes the plain form of the registry, in memory of its own.
func (r Registry) Tell() api.Registry {
	told := api.Registry{Powers: make([]int, api.MaxIds)}
	copy(told.Powers, r.powers[:])
	var names []byte
	for i, n := range r.roles {
		if n != 0 {
			names = append(names, byte('a'+i))
			told.Roles = append(told.Roles, n)
		}
	}
	told.Names = string(names)
	return told
}
