// Package journal has the log of a height: its messages, in the order in which they came.
package journal

import "synod/api"

// Entry is a message in a log.
type Entry struct {
	api.Msg
	Frame string
	Own   bool // the node itself has sent it; what comes in under its id is not its own
}

// Log is a list of messages, in which the same one may stand twice.
type Log []Entry

// Has tells whether a frame is in the log.
func (l Log) Has(frame string) bool {
	for _, e := range l {
		if e.Frame == frame {
			return true
		}
	}
	return false
}

// Like counts the messages of the kind, height, round and sender of another one.
func (l Log) Like(m api.Msg) int {
	count := 0
	for _, e := range l {
		if e.Kind == m.Kind && e.Height == m.Height && e.Round == m.Round && e.From == m.From {
			count++
		}
	}
	return count
}

// Senders tells who has sent a message that fits; who has sent several is told like any other.
func (l Log) Senders(fits func(Entry) bool) [api.MaxIds]bool {
	var ids [api.MaxIds]bool
	for _, e := range l {
		if fits(e) {
			ids[e.From] = true
		}
	}
	return ids
}

// Frames tells the frames of the messages that fit.
func (l Log) Frames(fits func(Entry) bool) []string {
	var frames []string
	for _, e := range l {
		if fits(e) {
			frames = append(frames, e.Frame)
		}
	}
	return frames
}

// Proposal finds the first proposal of a round that fits; false, if there is none.
func (l Log) Proposal(round int, fits func(Entry) bool) (Entry, bool) {
	for _, e := range l {
		if e.Kind == api.Proposal && e.Round == round && fits(e) {
			return e, true
		}
	}
	return Entry{}, false
}

// Votes fits all votes of a kind and round.
func Votes(kind, round int) func(Entry) bool {
	return func(e Entry) bool { return e.Kind == kind && e.Round == round }
}

// VotesFor fits the votes for a value. (A vote for nothing is none for the empty block.)
func VotesFor(kind, round int, value string) func(Entry) bool {
	return func(e Entry) bool {
		return e.Kind == kind && e.Round == round && !e.Nil && e.Value == value
	}
}

// VotesForNothing fits the votes for nothing.
func VotesForNothing(kind, round int) func(Entry) bool {
	return func(e Entry) bool { return e.Kind == kind && e.Round == round && e.Nil }
}
