package registry

import "synod/api"

// The letters that records begin with.
const (
	join  = 'j'
	leave = 'l'
	role  = 'r'
	power = 'v'
)

// maxRole is the highest role; 0 is kept for those who are no members.
const maxRole = 9

// record is what a record's text says.
type record struct {
	kind   byte
	index  int // of the member's name, or the validator's id
	number int // the role or the power; 0 for one who leaves
}

// readRecord reads a record's text; false, if it has not the form of one.
func readRecord(text string) (record, bool) {
	if len(text) == 2 && text[0] == leave {
		index, ok := place(text[1], 'a', 'z')
		return record{leave, index, 0}, ok
	}
	if len(text) != 3 {
		return record{}, false
	}
	switch text[0] {
	case join, role:
		index, isName := place(text[1], 'a', 'z')
		number, isRole := place(text[2], '0', '0'+maxRole)
		return record{text[0], index, number}, isName && isRole && number > 0
	case power:
		index, isID := place(text[1], '0', '0'+api.MaxIds-1)
		number, isPower := place(text[2], '0', '0'+api.MaxPower)
		return record{power, index, number}, isID && isPower
	}
	return record{}, false
}

// place tells where a byte stands between two others; false, if it does not.
func place(b, first, last byte) (int, bool) {
	if b < first || b > last {
		return 0, false
	}
	return int(b - first), true
}
