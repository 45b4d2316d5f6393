// Package images: pieces of memory packed into an image, and an image back into memory (P3 to P5).
package images

import "twinboot/api"

// Pack makes an image (P3).
func Pack(version int, entry int, segs []api.Segment) (string, api.Errno) {
	if version < 0 || version > api.MaxVersion {
		return "", api.ErrVersion
	}
	if !allFit(segs) {
		return "", api.ErrSegment
	}
	m, ok := lay(segs)
	if !ok {
		return "", api.ErrOverlap
	}
	if !m.covers(entry) {
		return "", api.ErrEntry
	}
	runs := m.runs()
	image := encode(content{version: version, entry: entry, runs: runs})
	if len(image) > api.MaxImage {
		return "", api.ErrBig
	}
	return image, api.OK
}

// Unpack tells what an image was made of (P4).
//
// A text is an image just if Pack makes it again of what is read there: so the rules of an image stand in Pack alone.
func Unpack(image string) (int, int, []api.Segment, api.Errno) {
	c, ok := decode(image)
	if !ok {
		return 0, 0, nil, api.ErrImage
	}
	again, e := Pack(c.version, c.entry, c.runs)
	if e != api.OK || again != image {
		return 0, 0, nil, api.ErrImage
	}
	return c.version, c.entry, c.runs, api.OK
}

// Load lays an image into memory (P5).
func Load(image string) (api.Loaded, api.Errno) {
	version, entry, runs, e := Unpack(image)
	if e != api.OK {
		return api.Loaded{}, e
	}
	m, ok := lay(runs)
	if !ok {
		return api.Loaded{}, api.ErrImage
	}
	return api.Loaded{Version: version, Entry: entry, Ram: string(m.bytes[:])}, api.OK
}

// Version: the version of an image; -1, if the text is none.
func Version(image string) int {
	version, _, _, e := Unpack(image)
	if e != api.OK {
		return -1
	}
	return version
}
