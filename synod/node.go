package synod

import (
	"slices"
	"strings"

	"synod/api"
	"synod/journal"
	"synod/timers"
	"synod/wire"
)

// decision is what a node keeps of a height that is decided.
type decision struct {
	block       string
	proposal    string // the frame
	certificate []string
	told        bool // put out again since the last Tick
}

// choice is a value, and the round in which it was chosen.
type choice struct {
	round int // -1: there is none
	value string
}

// turn is what a node keeps of its round alone: the next round begins without it.
type turn struct {
	round, step int
	held        bool                     // rule 5 has been done
	begun       [timerPrecommit + 1]bool // timers, by numbers
}

// The numbers of timers.
const (
	timerPropose = iota + 1
	timerPrevote
	timerPrecommit
)

// How many ticks timers take in the round 0.
const (
	ticksPropose = 3
	ticksVote    = 2
)

func (n *Node) height() int { return len(n.decided) }

func (n *Node) proposer(round int) int { return n.registry.Proposer(n.height() + round) }

// refusal tells why a signed frame is refused; nil, if it is not. (A frame's height is below MaxHeight: where that is reached, it is past.)
func (n *Node) refusal(m api.Msg, frame string) error {
	switch {
	case m.Height < n.height():
		return api.ErrPast
	case m.Height > n.height()+1 || m.Round > api.MaxRound:
		return api.ErrFar
	case m.Height == n.height() && n.isOutsider(m):
		return api.ErrOutsider
	}
	log := *n.logOf(m.Height)
	if log.Has(frame) {
		return api.ErrKnown
	}
	if log.Like(m) >= 2 {
		return api.ErrMany
	}
	return nil
}

// isOutsider tells whether the sender has no say in this, by the powers of the node's height.
func (n *Node) isOutsider(m api.Msg) bool {
	return n.registry.Power(m.From) == 0 || m.Kind == api.Proposal && m.From != n.proposer(m.Round)
}

// logOf is where a message of the node's height, or of the next one, stands.
func (n *Node) logOf(height int) *journal.Log {
	if height == n.height() {
		return &n.log
	}
	return &n.ahead
}

func (n *Node) take(e journal.Entry) {
	log := n.logOf(e.Height)
	*log = append(*log, e)
}

// tellAgain puts out what one needs who has not decided a height yet; once a tick, so that many late frames don't bring many answers.
func (n *Node) tellAgain(height int) {
	d := &n.decided[height]
	if d.told {
		return
	}
	d.told = true
	n.out.Put(d.proposal)
	n.out.Put(d.certificate...)
}

func isOwn(e journal.Entry) bool { return e.Own }

// send sends a message of the node's height and round; without power it sends nothing.
func (n *Node) send(m api.Msg) {
	id := n.key.Id()
	if n.registry.Power(id) == 0 {
		return
	}
	m.Height, m.Round, m.From = n.height(), n.round, id
	frame, err := wire.Encode(m)
	if err != nil {
		return // can't be: what a node says has a frame
	}
	n.key.Sign(frame)
	n.out.Put(frame)
	n.take(journal.Entry{Msg: m, Frame: frame, Own: true})
}

// beginHeight begins what follows the blocks that are decided.
func (n *Node) beginHeight() {
	none := choice{round: -1}
	n.locked, n.valid = none, none
	n.log, n.ahead = slices.DeleteFunc(n.ahead, func(e journal.Entry) bool { return n.isOutsider(e.Msg) }), nil
	if n.height() == api.MaxHeight {
		n.turn = turn{}
		return
	}
	n.beginRound(0)
}

func (n *Node) beginRound(round int) {
	n.turn = turn{round: round, step: api.Propose}
	if n.proposer(round) != n.key.Id() {
		n.beginTimer(timerPropose, ticksPropose)
		return
	}
	value := n.valid.value
	if n.valid.round < 0 {
		value = n.registry.Block(n.waiting)
	}
	n.send(api.Msg{Kind: api.Proposal, Valid: n.valid.round, Value: value})
}

// beginTimer begins a timer; later rounds have more time.
func (n *Node) beginTimer(number, ticks int) {
	n.begun[number] = true
	t := timers.Timer{Number: number, Height: n.height(), Round: n.round}
	n.timers.Begin(t, n.time+ticks+n.round)
}

// expire does what is to be done when a timer is due; of another height or round it does not count any more.
func (n *Node) expire(t timers.Timer) {
	if t.Height != n.height() || t.Round != n.round {
		return
	}
	switch {
	case t.Number == timerPropose && n.step == api.Propose:
		n.prevoteNothing()
	case t.Number == timerPrevote && n.step == api.Voting:
		n.precommitNothing()
	case t.Number == timerPrecommit && n.round < api.MaxRound:
		n.beginRound(n.round + 1)
	}
}

// forget lets go one record that waits for each of the block's.
func (n *Node) forget(block string) {
	for _, record := range strings.Split(block, ",") {
		if i := slices.Index(n.waiting, record); i >= 0 {
			n.waiting = slices.Delete(n.waiting, i, i+1)
		}
	}
}
