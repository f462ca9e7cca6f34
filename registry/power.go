package registry

import "synod/api"

// Power of an id; one that no validator can have has none.
func (r Registry) Power(id int) int {
	if id < 0 || id >= len(r.powers) {
		return 0
	}
	return r.powers[id]
}

// MoreThan tells whether ids have together more than so many thirds of the power of all.
func (r Registry) MoreThan(thirds int, ids [api.MaxIds]bool) bool {
	sum := 0
	for id, is := range ids {
		if is {
			sum += r.powers[id]
		}
	}
	return 3*sum > thirds*r.total()
}

// Proposer is whose turn it is: those with power take turns, in rising order.
func (r Registry) Proposer(turn int) int {
	var ids []int
	for id, p := range r.powers {
		if p > 0 {
			ids = append(ids, id)
		}
	}
	return ids[turn%len(ids)]
}
