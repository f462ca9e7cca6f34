package timers

import (
	"math/rand"
	"slices"
	"testing"
)

// Timers come by when they are due, then by when they began, whatever the order in which they were begun and asked for.
func TestP8Order(t *testing.T) {
	type begun struct {
		timer Timer
		due   int
	}
	for seed := range int64(300) {
		random := rand.New(rand.NewSource(seed))
		var h Heap
		var list []begun // stays in the order of beginning
		for time := range 40 {
			for range random.Intn(6) {
				b := begun{Timer{Number: 1 + random.Intn(3), Height: time, Round: len(list)}, time + 1 + random.Intn(9)}
				h.Begin(b.timer, b.due)
				list = append(list, b)
			}
			slices.SortStableFunc(list, func(a, b begun) int { return a.due - b.due })
			for len(list) > 0 && list[0].due <= time {
				if got, ok := h.Next(time); !ok || got != list[0].timer {
					t.Fatalf("seed %d, time %d: Next = %+v, %v, want %+v", seed, time, got, ok, list[0].timer)
				}
				list = list[1:]
			}
			if got, ok := h.Next(time); ok || got != (Timer{}) {
				t.Fatalf("seed %d, time %d: Next = %+v, %v, but none is due", seed, time, got, ok)
			}
		}
	}
}
