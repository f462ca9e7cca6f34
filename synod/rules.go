package synod

import (
	"synod/api"
	"synod/journal"
)

// goOn does the first rule that applies, and so on, till none does. (Proposals in the log come from their rounds' proposers: others are refused.)
func (n *Node) goOn() {
	for n.decide() || n.followOthers() || n.answerNew() || n.answerOld() || n.hold() || n.giveUp() || n.waitForPrevotes() || n.waitForPrecommits() {
	}
}

// most tells whether the senders of what fits have more than two thirds.
func (n *Node) most(fits func(journal.Entry) bool) bool {
	return n.registry.MoreThan(2, n.log.Senders(fits))
}

// decide is rule 1.
func (n *Node) decide() bool {
	for round := range api.MaxRound + 1 {
		p, ok := n.log.Proposal(round, func(p journal.Entry) bool {
			return n.most(journal.VotesFor(api.Precommit, round, p.Value)) && n.registry.IsGood(p.Value)
		})
		if ok {
			return n.keep(p)
		}
	}
	return false
}

// keep goes on to the next height with a proposal that is decided; false, if its value is not good.
func (n *Node) keep(p journal.Entry) bool {
	behind, err := n.registry.Behind(p.Value)
	if err != nil {
		return false
	}
	n.decided = append(n.decided, decision{block: p.Value, proposal: p.Frame, certificate: n.certificate(p)})
	n.registry = behind
	n.forget(p.Value)
	n.beginHeight()
	return true
}

// certificate has the precommits for a proposal's value, by rising senders.
func (n *Node) certificate(p journal.Entry) []string {
	fits := journal.VotesFor(api.Precommit, p.Round, p.Value)
	var frames []string
	for id := range api.MaxIds {
		frames = append(frames, n.log.Frames(func(e journal.Entry) bool { return e.From == id && fits(e) })...)
	}
	return frames
}

// followOthers is rule 2.
func (n *Node) followOthers() bool {
	for round := n.round + 1; round <= api.MaxRound; round++ {
		if n.registry.MoreThan(1, n.log.Senders(func(e journal.Entry) bool { return e.Round == round })) {
			n.beginRound(round)
			return true
		}
	}
	return false
}

// answerNew is rule 3.
func (n *Node) answerNew() bool {
	return n.answer(func(p journal.Entry) bool { return p.Valid < 0 })
}

// answerOld is rule 4.
func (n *Node) answerOld() bool {
	return n.answer(func(p journal.Entry) bool {
		return p.Valid >= 0 && n.most(journal.VotesFor(api.Prevote, p.Valid, p.Value))
	})
}

// answer sends a prevote on the first proposal of the round that fits. A lock gives way to a valid round that is not below it (no lock is one in -1: below all).
func (n *Node) answer(fits func(journal.Entry) bool) bool {
	if n.step != api.Propose {
		return false
	}
	p, ok := n.log.Proposal(n.round, fits)
	if !ok {
		return false
	}
	if n.registry.IsGood(p.Value) && (n.locked.round <= p.Valid || n.locked.value == p.Value) {
		n.send(api.Msg{Kind: api.Prevote, Value: p.Value})
		n.step = api.Voting
	} else {
		n.prevoteNothing()
	}
	return true
}

// hold is rule 5.
func (n *Node) hold() bool {
	if n.step == api.Propose || n.held {
		return false
	}
	p, ok := n.log.Proposal(n.round, func(p journal.Entry) bool {
		return n.most(journal.VotesFor(api.Prevote, n.round, p.Value)) && n.registry.IsGood(p.Value)
	})
	if !ok {
		return false
	}
	n.held = true
	n.valid = choice{n.round, p.Value}
	if n.step == api.Voting {
		n.locked = n.valid
		n.send(api.Msg{Kind: api.Precommit, Value: p.Value})
		n.step = api.Closing
	}
	return true
}

// giveUp is rule 6.
func (n *Node) giveUp() bool {
	if n.step != api.Voting || !n.most(journal.VotesForNothing(api.Prevote, n.round)) {
		return false
	}
	n.precommitNothing()
	return true
}

// waitForPrevotes is rule 7.
func (n *Node) waitForPrevotes() bool {
	if n.step != api.Voting || n.begun[timerPrevote] || !n.most(journal.Votes(api.Prevote, n.round)) {
		return false
	}
	n.beginTimer(timerPrevote, ticksVote)
	return true
}

// waitForPrecommits is rule 8.
func (n *Node) waitForPrecommits() bool {
	if n.begun[timerPrecommit] || !n.most(journal.Votes(api.Precommit, n.round)) {
		return false
	}
	n.beginTimer(timerPrecommit, ticksVote)
	return true
}

func (n *Node) prevoteNothing() {
	n.send(api.Msg{Kind: api.Prevote, Nil: true})
	n.step = api.Voting
}

func (n *Node) precommitNothing() {
	n.send(api.Msg{Kind: api.Precommit, Nil: true})
	n.step = api.Closing
}
