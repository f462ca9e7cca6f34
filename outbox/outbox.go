// Package outbox has the frames that go out, till they are asked for.
package outbox

import "synod/api"

// Box has room for api.MaxOut frames.
type Box struct {
	frames chan string
}

// New makes an empty box.
func New() Box {
	return Box{make(chan string, api.MaxOut)}
}

// Put puts frames out.
func (b *Box) Put(frames ...string) {
	for _, frame := range frames {
		select {
		case b.frames <- frame:
		default: // what finds no room is lost: to wait for some would never end
		}
	}
}

// Take tells the frames in their order, and empties the box.
func (b *Box) Take() []string {
	close(b.frames)
	var list []string
	for frame := range b.frames {
		list = append(list, frame)
	}
	*b = New()
	return list
}
