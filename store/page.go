package store

import "twinboot/chip"

const (
	firstPage  = 0
	secondPage = 1
)

// turns: the first byte of a page, by its turn. Each is one bit away from an erased byte, and none becomes another by bits that turn 1.
//
// Three turns are enough for ever: of two pages one is a turn behind the other, and with three it is seen which.
var turns = [3]byte{0xfe, 0xfd, 0xfb}

// page: what stands on a sector that is a page.
type page struct {
	sector, turn int
	held         Held
}

// turnOf: the turn that a first byte tells; false, if it tells none.
func turnOf(b byte) (int, bool) {
	for i := 0; i < len(turns); i++ {
		if turns[i] == b {
			return i, true
		}
	}
	return 0, false
}

func nextTurn(turn int) int {
	if turn < 0 || turn >= len(turns)-1 {
		return 0
	}
	return turn + 1
}

func otherPage(sector int) int {
	if sector == firstPage {
		return secondPage
	}
	return firstPage
}

// read reads a page; false, if its turn is not laid, or no device can hold what stands there.
func read(c *chip.Chip, sector int) (page, bool) {
	text := c.Read(sector*chip.Size, chip.Size)
	if len(text) < headBytes {
		return page{}, false
	}
	turn, ok := turnOf(text[0])
	if !ok {
		return page{}, false
	}
	h, ok := decode(text)
	if !ok {
		return page{}, false
	}
	return page{sector: sector, turn: turn, held: h}, true
}

// newest reads the page that counts; false, if there is none.
func newest(c *chip.Chip) (page, bool) {
	first, firstOK := read(c, firstPage)
	second, secondOK := read(c, secondPage)
	if !firstOK {
		return second, secondOK
	}
	if secondOK && second.turn == nextTurn(first.turn) {
		return second, true
	}
	return first, true
}

// write writes a page, its turn last.
func write(c *chip.Chip, p page) {
	if p.turn < 0 || p.turn >= len(turns) {
		return
	}
	from := p.sector * chip.Size
	text := encode(p.held)
	c.Erase(p.sector)
	for at := 0; at < len(text); at += chip.MaxProgram {
		end := at + chip.MaxProgram
		if end > len(text) {
			end = len(text)
		}
		c.Program(from+at, text[at:end])
	}
	turn := []byte{turns[p.turn]}
	c.Program(from, string(turn))
}
