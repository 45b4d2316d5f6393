// Package store: what a device holds, as it lies on the chip.
//
// Two sectors are pages, and all that a device holds stands on one of them. A change is written in full on the other page, and counts as soon as that page's turn is laid. The turn is one bit that becomes 0, so an operation that is cut leaves it laid or not laid, and nothing between. An erase that is cut makes bits 1 only, so an old page keeps its turn or has none: it never gets the turn of a newer one.
//
// A third sector begins with the mark, one bit too, without which there is no device. Only Create touches it. While there is no device, strange bytes may lie on the pages, and an erase that is cut may make anything of these; it makes no device as long as the mark is missing.
package store

import (
	"twinboot/api"
	"twinboot/chip"
)

const (
	markSector = 2
	mark       = "\xfe"
)

// Load reads what the device holds; ErrBlank, if there is no device on the chip.
func Load(c *chip.Chip) (Held, api.Errno) {
	if !marked(c) {
		return Held{}, api.ErrBlank
	}
	p, ok := newest(c)
	if !ok {
		return Held{}, api.ErrBlank
	}
	return p.held, api.OK
}

// Save lets the device hold something else; without a device it does nothing.
func Save(c *chip.Chip, h Held) {
	old, ok := newest(c)
	if !ok {
		return
	}
	p := page{sector: otherPage(old.sector), turn: nextTurn(old.turn), held: h}
	write(c, p)
}

// Create makes a device on a chip on which there is none.
//
// Whatever lies there, the mark or the pages are wanting at each step, till the mark is laid: so the order of the steps hangs on which of them it is now.
func Create(c *chip.Chip, h Held) {
	if marked(c) {
		c.Erase(markSector)
	}
	c.Erase(firstPage)
	c.Erase(secondPage)
	c.Erase(markSector)
	write(c, page{sector: firstPage, turn: 0, held: h})
	c.Program(markSector*chip.Size, mark)
}

func marked(c *chip.Chip) bool {
	return c.Read(markSector*chip.Size, len(mark)) == mark
}
