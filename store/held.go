package store

import (
	"twinboot/api"
	"twinboot/images"
)

// headBytes: the turn; the floor, the high byte first; how many bytes the good image has; the tries; the size of what is staged; how many bytes are behind the good image.
const headBytes = 7

// Held: what a device holds.
type Held struct {
	Good  string
	Floor int
	Trial string // empty: nothing is on trial
	Tries int
	Size  int // 0: nothing is staged
	Got   string
}

// encode writes a page as it is before its turn is laid.
func encode(h Held) string {
	// There is never both, so they share their place: the size tells which it is.
	behind := h.Trial + h.Got
	head := []byte{255, byte(h.Floor / 256), byte(h.Floor % 256), byte(len(h.Good)), byte(h.Tries), byte(h.Size), byte(len(behind))}
	return string(head) + h.Good + behind
}

// decode reads what stands on a page; false, if no device can hold it.
func decode(text string) (Held, bool) {
	if len(text) < headBytes {
		return Held{}, false
	}
	goodEnd := headBytes + int(text[3])
	end := goodEnd + int(text[6])
	if end > len(text) {
		return Held{}, false
	}
	h := Held{Good: text[headBytes:goodEnd], Floor: 256*int(text[1]) + int(text[2]), Tries: int(text[4]), Size: int(text[5])}
	if h.Size > 0 {
		h.Got = text[goodEnd:end]
	} else {
		h.Trial = text[goodEnd:end]
	}
	return h, h.lawful()
}

// lawful: can a device hold this? Others may have laid bytes on the chip, and the calls count on it.
func (h Held) lawful() bool {
	if images.Version(h.Good) < h.Floor {
		return false
	}
	if h.Size > 0 {
		return h.Size <= api.MaxImage && len(h.Got) <= h.Size && h.Tries == 0
	}
	if h.Trial == "" {
		return h.Tries == 0
	}
	return h.Tries <= api.MaxTries && images.Version(h.Trial) >= h.Floor
}
