package twinboot_test

import (
	"math/rand"
	"strings"
	"testing"

	"twinboot/api"
	"twinboot/chip"
	"twinboot/twinboot"
)

// modelDevice answers as P6 to P15 say, with all that it holds, and what runs, in plain sight; nil: there is no device.
type modelDevice struct {
	good, trial, got            string
	floor, tries, size, running int
}

// modelVersion: the version of an image; -1, if the text is none.
func modelVersion(s string) int {
	if _, ok := modelRead(s); !ok {
		return -1
	}
	return 256*int(s[2]) + int(s[3])
}

func modelFormat(m *modelDevice, image string) (*modelDevice, api.Errno) {
	switch {
	case m != nil:
		return m, api.ErrUsed
	case modelVersion(image) < 0:
		return m, api.ErrImage
	}
	return &modelDevice{good: image, floor: modelVersion(image)}, api.OK
}

func (m *modelDevice) state() api.State {
	return api.State{Version: modelVersion(m.good), Floor: m.floor, Trial: modelVersion(m.trial), Tries: m.tries, Size: m.size, Got: len(m.got), Running: m.running}
}

func (m *modelDevice) stage(size int) api.Errno {
	switch {
	case size < 1 || size > 120:
		return api.ErrSize
	case m.trial != "":
		return api.ErrTrial
	}
	m.size, m.got = size, ""
	return api.OK
}

func (m *modelDevice) write(data string) api.Errno {
	switch {
	case m.size == 0:
		return api.ErrIdle
	case len(data) < 1 || len(data) > 8 || len(m.got)+len(data) > m.size:
		return api.ErrSize
	}
	m.got += data
	return api.OK
}

func (m *modelDevice) activate() api.Errno {
	switch {
	case m.size == 0:
		return api.ErrIdle
	case len(m.got) < m.size:
		return api.ErrShort
	case modelVersion(m.got) < 0:
		return api.ErrImage
	case modelVersion(m.got) < m.floor:
		return api.ErrOld
	}
	m.trial, m.tries, m.size, m.got = m.got, 3, 0, ""
	return api.OK
}

// modelJump: what Boot answers of an image.
func modelJump(s string, trial bool) api.Jump {
	runs, _ := modelRead(s)
	return api.Jump{Trial: trial, Image: api.Loaded{Version: modelVersion(s), Entry: int(s[4]), Ram: modelRam(runs)}}
}

func (m *modelDevice) boot() api.Jump {
	if m.tries > 0 {
		m.tries--
		m.running = 2
		return modelJump(m.trial, true)
	}
	m.trial = ""
	m.running = 1
	return modelJump(m.good, false)
}

func (m *modelDevice) confirm() api.Errno {
	if m.running != 2 {
		return api.ErrRun
	}
	m.good, m.trial, m.tries, m.running = m.trial, "", 0, 1
	return api.OK
}

func (m *modelDevice) raise() api.Errno {
	if m.trial != "" {
		return api.ErrTrial
	}
	m.floor = modelVersion(m.good)
	return api.OK
}

func (m *modelDevice) drop() api.Errno {
	if m.trial == "" && m.size == 0 {
		return api.ErrIdle
	}
	m.trial, m.tries, m.size, m.got = "", 0, 0, ""
	if m.running == 2 {
		m.running = 0
	}
	return api.OK
}

// call: one that changes a device, with what it is handed.
type call struct {
	name string
	size int
	data string
}

// answer: what a call is answered.
type answer struct {
	errno api.Errno
	jump  api.Jump
}

// do makes the call on a device.
func (x call) do(c *chip.Chip, d *twinboot.Device) answer {
	switch x.name {
	case "Format":
		return answer{errno: twinboot.Format(c, x.data)}
	case "Stage":
		return answer{errno: d.Stage(x.size)}
	case "Write":
		return answer{errno: d.Write(x.data)}
	case "Activate":
		return answer{errno: d.Activate()}
	case "Boot":
		return answer{jump: d.Boot()}
	case "Confirm":
		return answer{errno: d.Confirm()}
	case "Raise":
		return answer{errno: d.Raise()}
	}
	return answer{errno: d.Drop()}
}

// model answers what the call should be answered, and what the device is behind it.
func (x call) model(m *modelDevice) (*modelDevice, answer) {
	if x.name == "Format" {
		next, e := modelFormat(m, x.data)
		return next, answer{errno: e}
	}
	next := *m
	switch x.name {
	case "Stage":
		return &next, answer{errno: next.stage(x.size)}
	case "Write":
		return &next, answer{errno: next.write(x.data)}
	case "Activate":
		return &next, answer{errno: next.activate()}
	case "Boot":
		return &next, answer{jump: next.boot()}
	case "Confirm":
		return &next, answer{errno: next.confirm()}
	case "Raise":
		return &next, answer{errno: next.raise()}
	}
	return &next, answer{errno: next.drop()}
}

// randomCall: one that mostly leads on from what the device holds.
func randomCall(r *rand.Rand, m *modelDevice, next string) call {
	if m == nil || r.Intn(20) == 0 {
		return call{name: "Format", data: next[:len(next)-r.Intn(2)]}
	}
	if m.trial != "" && r.Intn(10) > 0 {
		return call{name: []string{"Boot", "Boot", "Boot", "Confirm", "Confirm", "Raise", "Drop"}[r.Intn(7)]}
	}
	if r.Intn(10) == 0 {
		return call{name: []string{"Boot", "Boot", "Confirm", "Raise", "Drop"}[r.Intn(5)]}
	}
	if m.size == 0 && r.Intn(4) > 0 || r.Intn(40) == 0 {
		return call{name: "Stage", size: len(next) + r.Intn(9)/8}
	}
	if r.Intn(40) == 0 {
		return call{name: "Stage", size: r.Intn(123) - 1}
	}
	if len(m.got) < m.size && r.Intn(10) > 0 {
		return randomWrite(r, m, next)
	}
	if r.Intn(10) == 0 {
		return call{name: "Write", data: "x"}
	}
	return call{name: "Activate"}
}

// randomWrite: one that brings more of the image next, mostly 8 bytes.
func randomWrite(r *rand.Rand, m *modelDevice, next string) call {
	data := strings.Repeat("y", 9)
	if len(m.got) < len(next) {
		data = next[len(m.got):] + "z"
	}
	n := min(8, m.size-len(m.got))
	if r.Intn(3) == 0 {
		n = r.Intn(10)
	}
	return call{name: "Write", data: data[:min(n, len(data))]}
}

// image: one of this version with so many bytes of data.
func image(version int, data int) string {
	s, _ := modelPack(version, 0, []api.Segment{seg(0, 128, xs(data))})
	return s
}

// randomImage: one of a low version, mostly with few bytes.
func randomImage(r *rand.Rand) string {
	return image(3+r.Intn(4), r.Intn(1+r.Intn(110)))
}

func bytesOf(c *chip.Chip) string { return c.Read(0, chip.Sectors*chip.Size) }

// withBytes: a chip with these bytes.
func withBytes(s string) *chip.Chip {
	c := chip.New()
	for at := 0; at < len(s); at += chip.MaxProgram {
		c.Program(at, s[at:at+chip.MaxProgram])
	}
	return c
}

// wantDevice: Open and State tell of the chip what the model tells, and that nothing runs.
func wantDevice(t *testing.T, c *chip.Chip, m *modelDevice) *twinboot.Device {
	t.Helper()
	before := c.Ops()
	d, e := twinboot.Open(c)
	if m == nil {
		if d != nil || e != api.ErrBlank {
			t.Fatalf("Open = %v, %d, want ErrBlank", d, e)
		}
		return nil
	}
	if d == nil || e != api.OK {
		t.Fatalf("Open = %v, %d", d, e)
	}
	if n := c.Ops() - before; n > 64 {
		t.Fatalf("Open made %d operations", n)
	}
	s := m.state()
	s.Running = 0
	wantState(t, d, s)
	return d
}

func wantState(t *testing.T, d *twinboot.Device, want api.State) {
	t.Helper()
	if s := d.State(); s != want {
		t.Fatalf("State = %+v, want %+v", s, want)
	}
}

// wantCall makes a call: its answer, what it changes, and how many operations it makes are as promised.
func wantCall(t *testing.T, c *chip.Chip, d *twinboot.Device, m *modelDevice, x call) *modelDevice {
	t.Helper()
	bytes, ops := bytesOf(c), c.Ops()
	next, want := x.model(m)
	if a := x.do(c, d); a != want {
		t.Fatalf("%s(%d %x) = %+v, want %+v, at %#v", x.name, x.size, x.data, a, want, m)
	}
	if n := c.Ops() - ops; n > 64 {
		t.Fatalf("%s(%d %x) made %d operations", x.name, x.size, x.data, n)
	}
	if want.errno != api.OK && bytesOf(c) != bytes {
		t.Fatalf("%s(%d %x) = %d changed the chip", x.name, x.size, x.data, want.errno)
	}
	if d == nil {
		return next
	}
	ops = c.Ops()
	wantState(t, d, next.state())
	if c.Ops() != ops {
		t.Fatal("State made an operation")
	}
	return next
}
