package twinboot_test

import (
	"fmt"
	"math"
	"math/rand"
	"strings"
	"testing"

	"twinboot/api"
	"twinboot/chip"
	"twinboot/twinboot"
)

// device: a new one, made with this image.
func device(t *testing.T, image string) (*chip.Chip, *twinboot.Device) {
	t.Helper()
	c := chip.New()
	want(t, "Format", twinboot.Format(c, image), api.OK)
	d, e := twinboot.Open(c)
	want(t, "Open", e, api.OK)
	return c, d
}

func want(t *testing.T, what string, e api.Errno, want api.Errno) {
	t.Helper()
	if e != want {
		t.Fatalf("%s = %d, want %d", what, e, want)
	}
}

// take stages s and lets it come, so many bytes at once.
func take(t *testing.T, d *twinboot.Device, s string, step int) {
	t.Helper()
	want(t, "Stage", d.Stage(len(s)), api.OK)
	for at := 0; at < len(s); at += step {
		want(t, "Write", d.Write(s[at:min(at+step, len(s))]), api.OK)
	}
}

func TestExample6(t *testing.T) {
	c := chip.New()
	wantDevice(t, c, nil)
	want(t, "Format", twinboot.Format(c, image(3, 2)), api.OK)
	want(t, "Format once more", twinboot.Format(c, image(3, 2)), api.ErrUsed)
	d, e := twinboot.Open(c)
	want(t, "Open", e, api.OK)
	wantState(t, d, api.State{Version: 3, Floor: 3, Trial: -1})
}

func TestExample7(t *testing.T) {
	for version := 2; version <= 3; version++ {
		_, d := device(t, image(3, 9))
		want(t, "Confirm", d.Confirm(), api.ErrRun)
		want(t, "Write", d.Write("a"), api.ErrIdle)
		want(t, "Activate", d.Activate(), api.ErrIdle)
		want(t, "Drop", d.Drop(), api.ErrIdle)
		want(t, "Stage of 0", d.Stage(0), api.ErrSize)
		want(t, "Stage of 121", d.Stage(121), api.ErrSize)
		want(t, "Stage of 13", d.Stage(13), api.OK)
		want(t, "Activate", d.Activate(), api.ErrShort)
		next := image(version, 2)
		want(t, "Write of 9", d.Write(next[:9]), api.ErrSize)
		want(t, "Write of none", d.Write(""), api.ErrSize)
		want(t, "Write of 8", d.Write(next[:8]), api.OK)
		wantState(t, d, api.State{Version: 3, Floor: 3, Trial: -1, Size: 13, Got: 8})
		want(t, "Write of 6", d.Write(next[7:]), api.ErrSize)
		want(t, "Write of 5", d.Write(next[8:]), api.OK)
		if version == 2 {
			want(t, "Activate", d.Activate(), api.ErrOld)
			continue
		}
		want(t, "Activate", d.Activate(), api.OK)
		wantState(t, d, api.State{Version: 3, Floor: 3, Trial: 3, Tries: 3})
		want(t, "Stage of 13", d.Stage(13), api.ErrTrial)
		want(t, "Confirm", d.Confirm(), api.ErrRun)
	}
}

// A cut in a Write, at each operation of it: example 11 at the second.
func TestExample11(t *testing.T) {
	next := image(3, 2)
	for op := 0; op < 64; op++ {
		for _, torn := range []string{"", "\xff", "\x55", "\xf0\x0f\x01", "\xfe", "\x01"} {
			c, d := device(t, image(3, 9))
			want(t, "Stage", d.Stage(13), api.OK)
			c.Cut(op, torn)
			d.Write("\x00\x00\x00\x00\xff\x0f\xf0\x00")
			c.Restore()
			d, e := twinboot.Open(c)
			want(t, "Open", e, api.OK)
			if s := d.State(); s.Got != 0 && s.Got != 8 {
				t.Fatalf("cut at %d: %+v", op, s)
			}
			if d.State().Got == 8 {
				continue
			}
			want(t, "Write of 8", d.Write(next[:8]), api.OK)
			want(t, "Write of 5", d.Write(next[8:]), api.OK)
			want(t, "Activate", d.Activate(), api.OK)
			wantState(t, d, api.State{Version: 3, Floor: 3, Trial: 3, Tries: 3})
		}
	}
}

func TestP6Format(t *testing.T) {
	for _, good := range []string{example1, example3, image(0, 0), image(65535, 109), image(256, 1), image(255, 50)} {
		c := chip.New()
		for _, wrong := range []string{"", "TB", good[1:], good[:len(good)-1], good + "x", xs(121), xs(100000), image(1, 109) + good} {
			wantCall(t, c, nil, nil, call{name: "Format", data: wrong})
			wantDevice(t, c, nil)
		}
		m := wantCall(t, c, nil, nil, call{name: "Format", data: good})
		wantDevice(t, c, m)
		for _, again := range []string{good, image(7, 7), "", "TB"} {
			wantCall(t, c, nil, m, call{name: "Format", data: again})
		}
		d := wantDevice(t, c, m)
		v := modelVersion(good)
		wantState(t, d, api.State{Version: v, Floor: v, Trial: -1})
	}
}

// P6: there is a device, whatever it holds.
func TestP6UsedAlways(t *testing.T) {
	c, d := device(t, image(3, 2))
	used := func() {
		t.Helper()
		want(t, "Format", twinboot.Format(c, image(4, 2)), api.ErrUsed)
		want(t, "Format with no image", twinboot.Format(c, ""), api.ErrUsed)
	}
	want(t, "Stage", d.Stage(13), api.OK)
	used()
	want(t, "Write", d.Write("TB"), api.OK)
	used()
	take(t, d, image(5, 3), 8)
	used()
	want(t, "Activate", d.Activate(), api.OK)
	used()
	wantState(t, d, api.State{Version: 3, Floor: 3, Trial: 5, Tries: 3})
}

// P6: bytes of others that are no device are no hindrance.
func TestP6StrangeBytes(t *testing.T) {
	for i, bytes := range strangeBytes() {
		c := withBytes(bytes)
		if _, e := twinboot.Open(c); e == api.OK {
			continue
		}
		wantCall(t, c, nil, nil, call{name: "Format", data: "TB"})
		m := wantCall(t, c, nil, nil, call{name: "Format", data: image(i, i%100)})
		d := wantDevice(t, c, m)
		for _, x := range []call{{name: "Stage", size: 2}, {name: "Write", data: "T"}, {name: "Write", data: "B"}, {name: "Activate"}} {
			m = wantCall(t, c, d, m, x)
			d = wantDevice(t, c, m)
		}
	}
}

// strangeBytes: those of chips on which others laid something, on some of them over a device.
func strangeBytes() []string {
	r := rand.New(rand.NewSource(8))
	var l []string
	for b := 0; b < 256; b++ {
		l = append(l, strings.Repeat(string([]byte{byte(b)}), 1024))
	}
	for i := 0; i < 200; i++ {
		b := make([]byte, 1024)
		r.Read(b)
		l = append(l, string(b))
	}
	for _, now := range []string{bytesOf(staging()), bytesOf(trying())} {
		l = append(l, spoilt(r, now)...)
	}
	return l
}

// staging: a chip on whose device something is staged, and has come in part.
func staging() *chip.Chip {
	c := chip.New()
	twinboot.Format(c, image(3, 2))
	d, _ := twinboot.Open(c)
	d.Stage(100)
	for i := 0; i < 12; i++ {
		d.Write("12345678")
	}
	return c
}

// trying: a chip on whose device an image on trial has run.
func trying() *chip.Chip {
	c := chip.New()
	twinboot.Format(c, image(3, 2))
	d, _ := twinboot.Open(c)
	next := image(4, 2)
	d.Stage(len(next))
	d.Write(next[:8])
	d.Write(next[8:])
	d.Activate()
	d.Boot()
	return c
}

// spoilt: the bytes of a chip with some of them changed.
func spoilt(r *rand.Rand, now string) []string {
	var l []string
	for at := 0; at < 1024; at++ {
		for _, x := range []byte{1, 2, 4, 8, 16, 32, 64, 128, 255} {
			if at%256 > 32 && x < 255 {
				continue
			}
			b := []byte(now)
			b[at] ^= x
			l = append(l, string(b))
		}
	}
	for i := 0; i < 2000; i++ {
		b := []byte(now)
		for n := r.Intn(5); n >= 0; n-- {
			b[256*r.Intn(4)+r.Intn(8)] = byte(r.Intn(256))
		}
		l = append(l, string(b))
	}
	for s := 0; s < 4; s++ {
		l = append(l, now[:256*s]+strings.Repeat("\xff", 256)+now[256*s+256:])
		l = append(l, now[:256*s]+strings.Repeat("\x00", 256)+now[256*s+256:])
		l = append(l, now[256*s:]+now[:256*s])
	}
	return l
}

// P7: Open tells of a device, or of none, and runs nothing; it changes nothing.
func TestP7Open(t *testing.T) {
	c := chip.New()
	for i := 0; i < 3; i++ {
		wantDevice(t, c, nil)
	}
	if bytesOf(c) != bytesOf(chip.New()) {
		t.Error("Open changed a new chip")
	}
	c, d := device(t, image(3, 2))
	for i := 0; i < 3; i++ {
		bytes := bytesOf(c)
		d = wantDevice(t, c, &modelDevice{good: image(3, 2), floor: 3})
		if bytesOf(c) != bytes {
			t.Error("Open changed a chip")
		}
	}
	take(t, d, image(4, 2), 8)
	want(t, "Activate", d.Activate(), api.OK)
	for tries := 3; tries >= 0; tries-- {
		d = wantDevice(t, c, &modelDevice{good: image(3, 2), floor: 3, trial: image(4, 2), tries: tries})
		d.Boot()
	}
	wantDevice(t, c, &modelDevice{good: image(3, 2), floor: 3})
}

// everyCall: each of a device's calls, from what it finds up to an image that runs, and back.
func everyCall() []call {
	next := image(65535, 0)
	return []call{
		{name: "Format", data: "TB"}, {name: "Write", data: "a"}, {name: "Write", data: "12345678"}, {name: "Activate"}, {name: "Confirm"},
		{name: "Boot"}, {name: "Raise"}, {name: "Boot"}, {name: "Confirm"}, {name: "Boot"}, {name: "Raise"}, {name: "Drop"}, {name: "Drop"},
		{name: "Stage", size: 121}, {name: "Stage", size: len(next)}, {name: "Raise"}, {name: "Write", data: next[:8]}, {name: "Write", data: next[8:]},
		{name: "Activate"}, {name: "Boot"}, {name: "Boot"}, {name: "Boot"}, {name: "Confirm"}, {name: "Raise"},
		{name: "Stage", size: len(next)}, {name: "Write", data: next[:8]}, {name: "Write", data: next[8:]}, {name: "Activate"},
		{name: "Boot"}, {name: "Boot"}, {name: "Boot"}, {name: "Boot"}, {name: "Drop"},
	}
}

// P7: bytes of others lead to no panic, to no more operations than may be, and to no state that could not be.
func TestP7StrangeBytes(t *testing.T) {
	found := 0
	for _, bytes := range strangeBytes() {
		c := withBytes(bytes)
		d, e := twinboot.Open(c)
		if (d == nil) != (e != api.OK) || e != api.OK && e != api.ErrBlank {
			t.Fatalf("Open = %v, %d", d, e)
		}
		if d == nil {
			continue
		}
		found++
		for _, x := range everyCall() {
			ops := c.Ops()
			a := x.do(c, d)
			if n := c.Ops() - ops; n > 64 {
				t.Fatalf("%s made %d operations on %x", x.name, n, bytes)
			}
			ops = c.Ops()
			wantPossible(t, d.State())
			if c.Ops() != ops {
				t.Fatal("State made an operation")
			}
			if x.name == "Boot" {
				wantJump(t, d.State(), a.jump)
			}
		}
		wantState(t, d, api.State{Version: 65535, Floor: 65535, Trial: -1, Running: 1})
	}
	if found < 100 {
		t.Errorf("%d devices only", found)
	}
}

// wantPossible: a state that a device may be in.
func wantPossible(t *testing.T, s api.State) {
	t.Helper()
	if s.Version < s.Floor || s.Version > 65535 || s.Floor < 0 || s.Running < 0 || s.Running > 2 || s.Running == 2 && s.Trial == -1 {
		t.Fatalf("%+v", s)
	}
	if s.Trial == -1 && s.Tries != 0 || s.Trial != -1 && (s.Trial < s.Floor || s.Size != 0) || s.Tries < 0 || s.Tries > 3 {
		t.Fatalf("%+v", s)
	}
	if s.Size < 0 || s.Size > 120 || s.Got < 0 || s.Got > s.Size {
		t.Fatalf("%+v", s)
	}
}

// wantJump: what Boot answered fits the state behind it.
func wantJump(t *testing.T, s api.State, j api.Jump) {
	t.Helper()
	version := s.Version
	if j.Trial {
		version = s.Trial
	}
	if s.Running == 0 || j.Trial != (s.Running == 2) || j.Image.Version != version || len(j.Image.Ram) != 128 {
		t.Fatalf("Boot = %+v, at %+v", j, s)
	}
}

// P1: others lay bytes on a chip while its device is open.
func TestP1StrangeBytesUnderDevice(t *testing.T) {
	for at := 0; at < 1024; at += 8 {
		for _, what := range []string{"\x00", "\x00\x00\x00\x00\x00\x00\x00\x00", "\xfc", "\x55\x55\x55\x55\x55\x55\x55\x55"} {
			for boots := 0; boots < 3; boots++ {
				c, d := device(t, image(3, 2))
				take(t, d, image(4, 2), 8)
				if boots > 0 {
					want(t, "Activate", d.Activate(), api.OK)
				}
				for i := 0; i < boots; i++ {
					d.Boot()
				}
				c.Program(at, what)
				for _, x := range everyCall() {
					x.do(c, d)
					d.State()
				}
				for s := 0; s < chip.Sectors; s++ {
					c.Erase(s)
				}
				for _, x := range everyCall() {
					x.do(c, d)
					d.State()
				}
				wantDevice(t, c, nil)
			}
		}
	}
}

// P7: a chip with the same bytes as another holds the same, and goes on alike.
func TestP7SameBytes(t *testing.T) {
	c, d := device(t, image(3, 2))
	next := image(4, 90)
	m := &modelDevice{good: image(3, 2), floor: 3}
	m = wantCall(t, c, d, m, call{name: "Stage", size: len(next)})
	for at := 0; at < len(next); at += 5 {
		copied := withBytes(bytesOf(c))
		other := wantDevice(t, copied, m)
		x := call{name: "Write", data: next[at:min(at+5, len(next))]}
		wantCall(t, copied, other, m, x)
		m = wantCall(t, c, d, m, x)
		if bytesOf(copied) != bytesOf(c) {
			t.Fatalf("the chips differ behind %d bytes", at)
		}
	}
	copied := withBytes(bytesOf(c))
	m = wantCall(t, copied, wantDevice(t, copied, m), m, call{name: "Activate"})
	wantDevice(t, withBytes(bytesOf(copied)), m)
}

// P8: each field, one at a time and together.
func TestP8State(t *testing.T) {
	c, d := device(t, image(65535, 109))
	wantState(t, d, api.State{Version: 65535, Floor: 65535, Trial: -1})
	want(t, "Stage", d.Stage(120), api.OK)
	wantState(t, d, api.State{Version: 65535, Floor: 65535, Trial: -1, Size: 120})
	next := image(65535, 109)
	for i := 0; i < 120; i++ {
		want(t, "Write", d.Write(next[i:i+1]), api.OK)
		wantState(t, d, api.State{Version: 65535, Floor: 65535, Trial: -1, Size: 120, Got: i + 1})
	}
	want(t, "Activate", d.Activate(), api.OK)
	bytes, ops := bytesOf(c), c.Ops()
	for i := 0; i < 5; i++ {
		wantState(t, d, api.State{Version: 65535, Floor: 65535, Trial: 65535, Tries: 3})
	}
	if bytesOf(c) != bytes || c.Ops() != ops {
		t.Error("State changed the chip, or made an operation")
	}
	_, d = device(t, image(0, 0))
	take(t, d, image(0, 1), 3)
	want(t, "Activate", d.Activate(), api.OK)
	wantState(t, d, api.State{Version: 0, Floor: 0, Trial: 0, Tries: 3})
}

func TestP9Stage(t *testing.T) {
	c, d := device(t, image(3, 2))
	m := &modelDevice{good: image(3, 2), floor: 3}
	for size := -3; size <= 130; size++ {
		m = wantCall(t, c, d, m, call{name: "Stage", size: size})
		d = wantDevice(t, c, m)
		if size%3 == 0 {
			m = wantCall(t, c, d, m, call{name: "Write", data: "a"})
		}
	}
	for _, size := range []int{math.MinInt, math.MinInt + 1, -120, 0, 121, 128, 255, 256, 257, 512, 65537, 1 << 32, 1<<32 + 1, math.MaxInt} {
		m = wantCall(t, c, d, m, call{name: "Stage", size: size})
	}
	wantState(t, d, api.State{Version: 3, Floor: 3, Trial: -1, Size: 120, Got: 4})
	take(t, d, image(3, 2), 8)
	want(t, "Activate", d.Activate(), api.OK)
	m = &modelDevice{good: image(3, 2), floor: 3, trial: image(3, 2), tries: 3}
	for _, size := range []int{1, 13, 120} {
		want(t, "Stage on trial", d.Stage(size), api.ErrTrial)
		wantCall(t, c, d, m, call{name: "Stage", size: size})
	}
	for _, size := range []int{0, 121, -1, math.MaxInt} {
		want(t, "Stage of a wrong size on trial", d.Stage(size), api.ErrSize)
		wantCall(t, c, d, m, call{name: "Stage", size: size})
	}
	wantDevice(t, c, m)
}

// P9: of what was staged before nothing is left, whatever its bytes.
func TestP9Anew(t *testing.T) {
	next := image(4, 2)
	for _, old := range []string{"\x00", "\xff", "T", "\xaa"} {
		for n := 0; n <= 15; n++ {
			_, d := device(t, image(3, 2))
			want(t, "Stage", d.Stage(120), api.OK)
			for i := 0; i < n; i++ {
				want(t, "Write", d.Write(strings.Repeat(old, 8)), api.OK)
			}
			take(t, d, next, 8)
			want(t, "Activate", d.Activate(), api.OK)
			wantState(t, d, api.State{Version: 3, Floor: 3, Trial: 4, Tries: 3})
		}
	}
}

// P10: every number of bytes, at every number that are still to come.
func TestP10Write(t *testing.T) {
	c, d := device(t, image(3, 2))
	m := &modelDevice{good: image(3, 2), floor: 3}
	for _, data := range []string{"", "a", "12345678", "123456789"} {
		want(t, "Write", d.Write(data), api.ErrIdle)
	}
	for size := 1; size <= 20; size++ {
		for n := 0; n <= 21; n++ {
			m = wantCall(t, c, d, m, call{name: "Stage", size: size})
			for i := 0; i < 3; i++ {
				m = wantCall(t, c, d, m, call{name: "Write", data: xs(n)})
				d = wantDevice(t, c, m)
			}
		}
	}
	m = wantCall(t, c, d, m, call{name: "Stage", size: 120})
	for _, n := range []int{9, 16, 120, 121, 256, 257, 264, 1 << 20} {
		want(t, "Write of many", d.Write(xs(n)), api.ErrSize)
	}
	d = wantDevice(t, c, m)
	take(t, d, image(3, 2), 8)
	want(t, "Write behind all", d.Write("a"), api.ErrSize)
	want(t, "Write of none behind all", d.Write(""), api.ErrSize)
	want(t, "Activate", d.Activate(), api.OK)
	for _, data := range []string{"", "a", "123456789"} {
		want(t, "Write on trial", d.Write(data), api.ErrIdle)
	}
}

// P10: the bytes come one behind the other, whatever they are and however many come at once.
func TestP10Bytes(t *testing.T) {
	r := rand.New(rand.NewSource(9))
	for i := 0; i < 200; i++ {
		segs := randomSegments(r)
		next, e := modelPack(r.Intn(65536), segs[0].Addr, segs)
		if e != api.OK {
			continue
		}
		c, d := device(t, image(0, i%109))
		want(t, "Stage", d.Stage(len(next)), api.OK)
		for at := 0; at < len(next); {
			n := min(1+r.Intn(8), len(next)-at)
			want(t, "Write", d.Write(next[at:at+n]), api.OK)
			at += n
			if r.Intn(4) == 0 {
				d, _ = twinboot.Open(c)
			}
		}
		want(t, "Activate", d.Activate(), api.OK)
		wantState(t, d, api.State{Trial: modelVersion(next), Tries: 3})
	}
}

func TestP11Activate(t *testing.T) {
	for _, version := range []int{0, 1, 255, 256, 298, 299, 300, 301, 512, 556, 65535} {
		for _, step := range []int{1, 3, 8} {
			c, d := device(t, image(300, 7))
			m := &modelDevice{good: image(300, 7), floor: 300}
			next := image(version, 40)
			m = wantCall(t, c, d, m, call{name: "Activate"})
			m = wantCall(t, c, d, m, call{name: "Stage", size: len(next)})
			for at := 0; at < len(next); at += step {
				m = wantCall(t, c, d, m, call{name: "Activate"})
				m = wantCall(t, c, d, m, call{name: "Write", data: next[at:min(at+step, len(next))]})
			}
			m = wantCall(t, c, d, m, call{name: "Activate"})
			d = wantDevice(t, c, m)
			if version >= 300 {
				wantState(t, d, api.State{Version: 300, Floor: 300, Trial: version, Tries: 3})
			} else {
				wantState(t, d, api.State{Version: 300, Floor: 300, Trial: -1, Size: len(next), Got: len(next)})
			}
			wantCall(t, c, d, m, call{name: "Activate"})
		}
	}
}

// P11: of what is no image nothing goes on trial, and it stays staged; an old version is asked for only of an image.
func TestP11NoImage(t *testing.T) {
	next := image(400, 20)
	old := image(2, 20)
	for _, wrong := range []string{"\xff", "T", xs(120), next[1:], next + "\x00", next + "\xff", next[:len(next)-1], old[:len(old)-1] + "x", "XX" + next[2:], strings.Repeat("\x00", 120), strings.Repeat("\xff", 120)} {
		c, d := device(t, image(300, 7))
		take(t, d, wrong, 8)
		for i := 0; i < 2; i++ {
			want(t, "Activate", d.Activate(), api.ErrImage)
			d = wantDevice(t, c, &modelDevice{good: image(300, 7), floor: 300, size: len(wrong), got: wrong})
		}
		take(t, d, next, 8)
		want(t, "Activate", d.Activate(), api.OK)
	}
}

// P6 to P15 and P17: many calls, against the model; and what a call changed is there at the next Open.
func TestModel(t *testing.T) {
	r := rand.New(rand.NewSource(10))
	tally := map[string]int{}
	for i := 0; i < 600; i++ {
		c := chip.New()
		var m *modelDevice
		var d *twinboot.Device
		next := randomImage(r)
		for j := 0; j < 100; j++ {
			x := randomCall(r, m, next)
			_, a := x.model(m)
			tally[fmt.Sprint(x.name, a.errno, a.jump.Trial)]++
			m = wantCall(t, c, d, m, x)
			if m != nil && (d == nil || r.Intn(10) == 0) {
				d = wantDevice(t, c, m)
				m.running = 0
			}
			if x.name == "Activate" {
				next = randomImage(r)
			}
		}
	}
	for name, answers := range map[string][]api.Errno{
		"Format":   {api.OK, api.ErrImage, api.ErrUsed},
		"Stage":    {api.OK, api.ErrSize, api.ErrTrial},
		"Write":    {api.OK, api.ErrIdle, api.ErrSize},
		"Activate": {api.OK, api.ErrIdle, api.ErrShort, api.ErrImage, api.ErrOld},
		"Boot":     {api.OK},
		"Confirm":  {api.OK, api.ErrRun},
		"Raise":    {api.OK, api.ErrTrial},
		"Drop":     {api.OK, api.ErrIdle},
	} {
		for _, e := range answers {
			if n := tally[fmt.Sprint(name, e, false)]; n < 20 {
				t.Errorf("%s was answered %d only %d times", name, e, n)
			}
		}
	}
	if n := tally[fmt.Sprint("Boot", api.OK, true)]; n < 20 {
		t.Errorf("an image on trial ran %d times only", n)
	}
}

// P2: two devices do not know of each other.
func TestP2TwoDevices(t *testing.T) {
	a, b := image(5, 30), image(7, 60)
	_, first := device(t, a)
	_, second := device(t, b)
	want(t, "Stage", first.Stage(len(b)), api.OK)
	want(t, "Stage", second.Stage(len(a)), api.OK)
	for at := 0; at < len(b); at += 8 {
		want(t, "Write", first.Write(b[at:min(at+8, len(b))]), api.OK)
		if at < len(a) {
			want(t, "Write", second.Write(a[at:min(at+8, len(a))]), api.OK)
		}
	}
	want(t, "Activate", first.Activate(), api.OK)
	want(t, "Activate", second.Activate(), api.ErrOld)
	wantState(t, first, api.State{Version: 5, Floor: 5, Trial: 7, Tries: 3})
	wantState(t, second, api.State{Version: 7, Floor: 7, Trial: -1, Size: len(a), Got: len(a)})
}

// P17: the greatest that can be: both images have all their bytes.
func TestP17Most(t *testing.T) {
	c := chip.New()
	m := wantCall(t, c, nil, nil, call{name: "Format", data: image(9, 109)})
	d := wantDevice(t, c, m)
	next := image(10, 109)
	for i := 0; i < 3; i++ {
		m = wantCall(t, c, d, m, call{name: "Stage", size: 120})
		for at := 0; at < 120; at += 8 {
			m = wantCall(t, c, d, m, call{name: "Write", data: next[at : at+8]})
		}
	}
	m = wantCall(t, c, d, m, call{name: "Activate"})
	wantDevice(t, c, m)
}
