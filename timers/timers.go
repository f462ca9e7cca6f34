// Package timers has timers that wait till they are due.
package timers

// Timer is of a height and a round; what happens when it is due hangs on its number.
type Timer struct {
	Number, Height, Round int
}

// waiting is a timer in the heap, with what it is ordered by.
type waiting struct {
	Timer
	due   int
	began int // the count of timers that began ahead of it
}

// Heap has the timer that is due first at its root; the children of i are 2i+1 and 2i+2.
type Heap struct {
	list  []waiting
	begun int
}

// Begin lets a timer wait.
func (h *Heap) Begin(t Timer, due int) {
	h.list = append(h.list, waiting{t, due, h.begun})
	h.begun++
	h.siftUp(len(h.list) - 1)
}

// Next takes the first timer out, if it is due; false, if none is.
func (h *Heap) Next(time int) (Timer, bool) {
	if len(h.list) == 0 || h.list[0].due > time {
		return Timer{}, false
	}
	first := h.list[0].Timer
	last := len(h.list) - 1
	h.list[0] = h.list[last]
	h.list = h.list[:last]
	h.siftDown(0)
	return first, true
}

// before tells whether a timer is done ahead of another one.
func (h *Heap) before(i, j int) bool {
	a, b := h.list[i], h.list[j]
	if a.due != b.due {
		return a.due < b.due
	}
	return a.began < b.began
}

func (h *Heap) siftUp(i int) {
	for i > 0 {
		parent := (i - 1) / 2
		if !h.before(i, parent) {
			return
		}
		h.list[i], h.list[parent] = h.list[parent], h.list[i]
		i = parent
	}
}

func (h *Heap) siftDown(i int) {
	for {
		least := i
		for child := 2*i + 1; child <= 2*i+2 && child < len(h.list); child++ {
			if h.before(child, least) {
				least = child
			}
		}
		if least == i {
			return
		}
		h.list[i], h.list[least] = h.list[least], h.list[i]
		i = least
	}
}
