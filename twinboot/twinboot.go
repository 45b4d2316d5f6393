// Package twinboot: a device that boots, takes new images, and never loses its last good one: see DOC.md.
package twinboot

import (
	"twinboot/api"
	"twinboot/chip"
	"twinboot/images"
	"twinboot/store"
)

// Pack makes an image (P3).
func Pack(version int, entry int, segs []api.Segment) (string, api.Errno) {
	return images.Pack(version, entry, segs)
}

// Unpack tells what an image was made of (P4).
func Unpack(image string) (int, int, []api.Segment, api.Errno) {
	return images.Unpack(image)
}

// Load lays an image into memory (P5).
func Load(image string) (api.Loaded, api.Errno) {
	return images.Load(image)
}

// What runs.
const (
	nothingRuns = 0
	goodRuns    = 1
	trialRuns   = 2
)

// Device is one that is open. What it holds is on its chip alone, and read there at each call.
type Device struct {
	chip    *chip.Chip
	running int
}

// Format makes a device on a chip (P6).
func Format(c *chip.Chip, image string) api.Errno {
	_, e := store.Load(c)
	if e == api.OK {
		return api.ErrUsed
	}
	version := images.Version(image)
	if version < 0 {
		return api.ErrImage
	}
	store.Create(c, store.Held{Good: image, Floor: version})
	return api.OK
}

// Open opens the device on a chip (P7).
func Open(c *chip.Chip) (*Device, api.Errno) {
	_, e := store.Load(c)
	if e != api.OK {
		return nil, e
	}
	return &Device{chip: c, running: nothingRuns}, api.OK
}

// State tells what the device holds, and what runs (P8).
func (d *Device) State() api.State {
	h, e := store.Load(d.chip)
	if e != api.OK {
		return api.State{}
	}
	return api.State{
		Version: images.Version(h.Good),
		Floor:   h.Floor,
		Trial:   images.Version(h.Trial),
		Tries:   h.Tries,
		Size:    h.Size,
		Got:     len(h.Got),
		Running: d.running,
	}
}

// Stage makes room for something new (P9).
func (d *Device) Stage(size int) api.Errno {
	if size < 1 || size > api.MaxImage {
		return api.ErrSize
	}
	h, e := store.Load(d.chip)
	if e != api.OK {
		return e
	}
	if h.Trial != "" {
		return api.ErrTrial
	}
	store.Save(d.chip, store.Held{Good: h.Good, Floor: h.Floor, Size: size})
	return api.OK
}

// Write takes some bytes of what is staged (P10).
func (d *Device) Write(data string) api.Errno {
	h, e := store.Load(d.chip)
	if e != api.OK {
		return e
	}
	if h.Size == 0 {
		return api.ErrIdle
	}
	if data == "" || len(data) > api.MaxWrite || len(data) > h.Size-len(h.Got) {
		return api.ErrSize
	}
	h.Got = h.Got + data
	store.Save(d.chip, h)
	return api.OK
}

// Activate puts what is staged on trial (P11).
func (d *Device) Activate() api.Errno {
	h, e := store.Load(d.chip)
	if e != api.OK {
		return e
	}
	if h.Size == 0 {
		return api.ErrIdle
	}
	if len(h.Got) < h.Size {
		return api.ErrShort
	}
	version := images.Version(h.Got)
	if version < 0 {
		return api.ErrImage
	}
	if version < h.Floor {
		return api.ErrOld
	}
	store.Save(d.chip, store.Held{Good: h.Good, Floor: h.Floor, Trial: h.Got, Tries: api.MaxTries})
	return api.OK
}

// Boot lets an image run (P12).
func (d *Device) Boot() api.Jump {
	h, e := store.Load(d.chip)
	if e != api.OK {
		return api.Jump{}
	}
	if h.Trial != "" && h.Tries > 0 {
		// The try is gone before the image runs: an image that hangs has had it all the same.
		h.Tries--
		store.Save(d.chip, h)
		d.running = trialRuns
		return jump(h.Trial, true)
	}
	if h.Trial != "" {
		h.Trial = ""
		store.Save(d.chip, h)
	}
	d.running = goodRuns
	return jump(h.Good, false)
}

func jump(image string, trial bool) api.Jump {
	loaded, e := images.Load(image)
	if e != api.OK {
		return api.Jump{}
	}
	return api.Jump{Trial: trial, Image: loaded}
}

// Confirm makes the image on trial the good one (P13).
func (d *Device) Confirm() api.Errno {
	h, e := store.Load(d.chip)
	if e != api.OK {
		return e
	}
	if d.running != trialRuns || h.Trial == "" {
		return api.ErrRun
	}
	store.Save(d.chip, store.Held{Good: h.Trial, Floor: h.Floor})
	d.running = goodRuns
	return api.OK
}

// Raise raises the floor (P14).
func (d *Device) Raise() api.Errno {
	h, e := store.Load(d.chip)
	if e != api.OK {
		return e
	}
	if h.Trial != "" {
		return api.ErrTrial
	}
	h.Floor = images.Version(h.Good)
	store.Save(d.chip, h)
	return api.OK
}

// Drop drops what is on trial, or staged (P15).
func (d *Device) Drop() api.Errno {
	h, e := store.Load(d.chip)
	if e != api.OK {
		return e
	}
	if h.Trial == "" && h.Size == 0 {
		return api.ErrIdle
	}
	store.Save(d.chip, store.Held{Good: h.Good, Floor: h.Floor})
	if d.running == trialRuns {
		d.running = nothingRuns
	}
	return api.OK
}
