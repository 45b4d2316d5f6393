// Package twinboot: a device that boots, takes new images, and never loses its last good one: see DOC.md.
package twinboot

import (
	"twinboot/api"
	"twinboot/chip"
	"twinboot/images"
)

// Pack makes an image (P3).
func Pack(version int, entry int, segs []api.Segment) (string, api.Errno) {
	return images.Pack(version, entry, segs)
}

// Unpack tells what an image was made of (P4).
func Unpack(image string) (int, int, []api.Segment, api.Errno) {
	return images.Unpack(image)
}

// Load lays an image into memory (P5).
func Load(image string) (api.Loaded, api.Errno) {
	return images.Load(image)
}

// Device is one that is open.
type Device struct{}

// Format makes a device on a chip (P6).
func Format(c *chip.Chip, image string) api.Errno { return api.OK }

// Open opens the device on a chip (P7).
func Open(c *chip.Chip) (*Device, api.Errno) { return nil, api.OK }

// State tells what the device holds, and what runs (P8).
func (d *Device) State() api.State { return api.State{} }

// Stage makes room for something new (P9).
func (d *Device) Stage(size int) api.Errno { return api.OK }

// Write takes some bytes of what is staged (P10).
func (d *Device) Write(data string) api.Errno { return api.OK }

// Activate puts what is staged on trial (P11).
func (d *Device) Activate() api.Errno { return api.OK }

// Boot lets an image run (P12).
func (d *Device) Boot() api.Jump { return api.Jump{} }

// Confirm makes the image on trial the good one (P13).
func (d *Device) Confirm() api.Errno { return api.OK }

// Raise raises the floor (P14).
func (d *Device) Raise() api.Errno { return api.OK }

// Drop drops what is on trial, or staged (P15).
func (d *Device) Drop() api.Errno { return api.OK }
