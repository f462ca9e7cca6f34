package registry

import "synod/api"

// IsRecord tells whether a text has the form of a record.
func IsRecord(text string) bool {
	_, ok := readRecord(text)
	return ok
}

// IsGood tells whether a text is a block that is good here.
func (r Registry) IsGood(text string) bool {
	_, err := r.Behind(text)
	return err == nil
}

// Block makes a block of the records that wait: of each that may be behind those taken so far.
func (r Registry) Block(waiting []string) string {
	block := ""
	for _, text := range waiting {
		longer := text
		if block != "" {
			longer = block + "," + text
		}
		if len(longer) <= api.MaxValue && r.IsGood(longer) {
			block = longer
		}
	}
	return block
}
