package images

import "twinboot/api"

// memory: which addresses are covered, and what lies there (noughts where nothing is).
type memory struct {
	covered [api.MaxRam]bool
	bytes   [api.MaxRam]byte
}

// allFit: are there segments, not too many of them, and may each one be?
func allFit(segs []api.Segment) bool {
	if len(segs) < 1 || len(segs) > api.MaxSegments {
		return false
	}
	for i := 0; i < len(segs); i++ {
		if !fits(segs[i]) {
			return false
		}
	}
	return true
}

// fits: may the segment be, taken alone?
func fits(s api.Segment) bool {
	if s.Addr < 0 || s.Size < 1 {
		return false
	}
	// Not Addr + Size: the sum may be greater than an int can be.
	return s.Addr <= api.MaxRam-s.Size && len(s.Data) <= s.Size
}

// lay lays segments into an empty memory; false, if one of them does not find its addresses free.
func lay(segs []api.Segment) (*memory, bool) {
	m := &memory{}
	for i := 0; i < len(segs); i++ {
		ok := m.add(segs[i])
		if !ok {
			return nil, false
		}
	}
	return m, true
}

// add lays one segment; false, if an address of it is covered already, or there is no such address.
func (m *memory) add(s api.Segment) bool {
	if !fits(s) {
		return false
	}
	for i := 0; i < s.Size; i++ {
		at := s.Addr + i
		if at >= api.MaxRam || m.covered[at] {
			return false
		}
		m.covered[at] = true
		if i < len(s.Data) {
			m.bytes[at] = s.Data[i]
		}
	}
	return true
}

// covers: is there such an address, and is it covered?
func (m *memory) covers(addr int) bool {
	return addr >= 0 && addr < api.MaxRam && m.covered[addr]
}

// runs: the runs as segments, in rising order of their addresses, with their data.
func (m *memory) runs() []api.Segment {
	var runs []api.Segment
	for at := 0; at < api.MaxRam; at++ {
		if m.covered[at] && !m.covers(at-1) {
			run := m.runAt(at)
			runs = append(runs, run)
		}
	}
	return runs
}

// runAt: the run that begins at first, with its data.
func (m *memory) runAt(first int) api.Segment {
	if !m.covers(first) {
		return api.Segment{}
	}
	end := first
	dataEnd := first
	for end < api.MaxRam && m.covered[end] {
		if m.bytes[end] != 0 {
			dataEnd = end + 1
		}
		end++
	}
	return api.Segment{Addr: first, Size: end - first, Data: string(m.bytes[first:dataEnd])}
}
