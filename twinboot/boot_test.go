package twinboot_test

import (
	"testing"

	"twinboot/api"
	"twinboot/chip"
	"twinboot/twinboot"
)

// tried: a device with the good image, and next on trial.
func tried(t *testing.T, good string, next string) (*chip.Chip, *twinboot.Device) {
	t.Helper()
	c, d := device(t, good)
	try(t, d, next)
	return c, d
}

// try takes an image, and puts it on trial.
func try(t *testing.T, d *twinboot.Device, next string) {
	t.Helper()
	take(t, d, next, 8)
	want(t, "Activate", d.Activate(), api.OK)
}

// reopen opens the chip anew.
func reopen(t *testing.T, c *chip.Chip) *twinboot.Device {
	t.Helper()
	d, e := twinboot.Open(c)
	want(t, "Open", e, api.OK)
	return d
}

// wantBoot: Boot leads to this image.
func wantBoot(t *testing.T, d *twinboot.Device, image string, trial bool) {
	t.Helper()
	loaded, e := twinboot.Load(image)
	want(t, "Load", e, api.OK)
	if j := d.Boot(); j != (api.Jump{Trial: trial, Image: loaded}) {
		t.Fatalf("Boot = %+v, want %v, %+v", j, trial, loaded)
	}
}

func TestExample8(t *testing.T) {
	first, next := image(3, 9), image(3, 2)
	c, d := tried(t, first, next)
	wantBoot(t, d, next, true)
	wantState(t, d, api.State{Version: 3, Floor: 3, Trial: 3, Tries: 2, Running: 2})
	d = reopen(t, c)
	wantState(t, d, api.State{Version: 3, Floor: 3, Trial: 3, Tries: 2})
	want(t, "Confirm", d.Confirm(), api.ErrRun)
	wantBoot(t, d, next, true)
	wantBoot(t, d, next, true)
	wantState(t, d, api.State{Version: 3, Floor: 3, Trial: 3, Running: 2})
	wantBoot(t, d, first, false)
	wantState(t, d, api.State{Version: 3, Floor: 3, Trial: -1, Running: 1})
}

func TestExample9(t *testing.T) {
	next := image(7, 2)
	for boots := 1; boots <= 3; boots++ {
		c, d := tried(t, image(3, 9), next)
		for i := 0; i < boots; i++ {
			wantBoot(t, d, next, true)
		}
		want(t, "Confirm", d.Confirm(), api.OK)
		wantState(t, d, api.State{Version: 7, Floor: 3, Trial: -1, Running: 1})
		wantBoot(t, d, next, false)
		d = reopen(t, c)
		wantState(t, d, api.State{Version: 7, Floor: 3, Trial: -1})
		wantBoot(t, d, next, false)
	}
}

func TestExample10(t *testing.T) {
	c, d := tried(t, image(3, 9), image(5, 2))
	wantBoot(t, d, image(5, 2), true)
	want(t, "Confirm", d.Confirm(), api.OK)
	try(t, d, image(3, 4))
	wantState(t, d, api.State{Version: 5, Floor: 3, Trial: 3, Tries: 3, Running: 1})
	want(t, "Drop", d.Drop(), api.OK)
	want(t, "Raise", d.Raise(), api.OK)
	wantState(t, d, api.State{Version: 5, Floor: 5, Trial: -1, Running: 1})
	take(t, d, image(4, 2), 8)
	want(t, "Activate", d.Activate(), api.ErrOld)
	wantState(t, reopen(t, c), api.State{Version: 5, Floor: 5, Trial: -1, Size: 13, Got: 13})
}

// P12: what runs is what Load answers, whatever the images; the device may be opened anew at each boot, or at none.
func TestP12Boot(t *testing.T) {
	list := []string{example1, example3, image(0, 0), image(65535, 109), image(65535, 0), image(256, 1), image(255, 50)}
	for _, good := range list {
		for _, next := range list {
			if modelVersion(next) < modelVersion(good) {
				continue
			}
			for anew := 0; anew < 16; anew++ {
				c, d := tried(t, good, next)
				for boot := 0; boot < 4; boot++ {
					if anew>>boot&1 == 1 {
						d = reopen(t, c)
					}
					wantBoot(t, d, []string{next, good}[boot/3], boot < 3)
				}
				wantBoot(t, d, good, false)
				wantBoot(t, reopen(t, c), good, false)
			}
		}
	}
}

// P12: the same image is good and on trial: it is told which of the two runs.
func TestP12SameImage(t *testing.T) {
	same := image(3, 9)
	_, d := tried(t, same, same)
	for tries := 2; tries >= 0; tries-- {
		wantBoot(t, d, same, true)
		wantState(t, d, api.State{Version: 3, Floor: 3, Trial: 3, Tries: tries, Running: 2})
	}
	wantBoot(t, d, same, false)
	wantState(t, d, api.State{Version: 3, Floor: 3, Trial: -1, Running: 1})
}

// P12: what is staged stays, with all that has come, and goes on behind the boot.
func TestP12Staged(t *testing.T) {
	good, next := image(3, 9), image(4, 20)
	for came := 0; came <= len(next); came++ {
		c, d := device(t, good)
		want(t, "Stage", d.Stage(len(next)), api.OK)
		for at := 0; at < came; at++ {
			want(t, "Write", d.Write(next[at:at+1]), api.OK)
		}
		for i := 0; i < 5; i++ {
			wantBoot(t, d, good, false)
			wantState(t, d, api.State{Version: 3, Floor: 3, Trial: -1, Size: len(next), Got: came, Running: 1})
			if i == came%5 {
				d = reopen(t, c)
			}
		}
		for at := came; at < len(next); at++ {
			want(t, "Write", d.Write(next[at:at+1]), api.OK)
		}
		want(t, "Activate", d.Activate(), api.OK)
		wantBoot(t, d, next, true)
	}
}

// P13: Confirm is answered OK only while the image on trial runs.
func TestP13Confirm(t *testing.T) {
	good, next := image(3, 9), image(4, 2)
	c, d := device(t, good)
	refused := func(what string) {
		t.Helper()
		bytes, s := bytesOf(c), d.State()
		want(t, "Confirm: "+what, d.Confirm(), api.ErrRun)
		if bytesOf(c) != bytes || d.State() != s {
			t.Fatalf("Confirm: %s: something is changed", what)
		}
	}
	refused("just opened")
	wantBoot(t, d, good, false)
	refused("the good one runs")
	take(t, d, next, 8)
	refused("an image is staged")
	want(t, "Activate", d.Activate(), api.OK)
	refused("the good one runs, another is on trial")
	d = reopen(t, c)
	refused("one is on trial, nothing runs")
	wantBoot(t, d, next, true)
	d = reopen(t, c)
	refused("one is on trial, and ran before")
	wantBoot(t, d, next, true)
	wantBoot(t, d, next, true)
	wantBoot(t, d, good, false)
	refused("the tries are gone")
	try(t, d, next)
	wantBoot(t, d, next, true)
	want(t, "Drop", d.Drop(), api.OK)
	refused("it was dropped")
	try(t, d, next)
	refused("it was dropped, and came again")
	wantBoot(t, d, next, true)
	want(t, "Confirm", d.Confirm(), api.OK)
	refused("it is confirmed")
	try(t, d, good)
	refused("another one is on trial")
}

// P13: others laid the bytes of a device without a trial under one whose trial runs: there is nothing to confirm.
func TestP13NothingOnTrial(t *testing.T) {
	plain, _ := device(t, image(3, 9))
	c, d := tried(t, image(3, 9), image(4, 2))
	wantBoot(t, d, image(4, 2), true)
	for s := 0; s < chip.Sectors; s++ {
		c.Erase(s)
	}
	bytes := bytesOf(plain)
	for at := 0; at < len(bytes); at += 8 {
		c.Program(at, bytes[at:at+8])
	}
	want(t, "Confirm", d.Confirm(), api.ErrRun)
	if bytesOf(c) != bytes {
		t.Error("Confirm changed the chip")
	}
}

// P13: a confirmed image is good for ever, and the floor stays, be the version above the old one or below it.
func TestP13Good(t *testing.T) {
	c, d := device(t, image(300, 9))
	good := image(300, 9)
	for i, version := range []int{65535, 300, 301, 300, 511, 512, 300, 65535} {
		next := image(version, 109-13*i)
		try(t, d, next)
		wantBoot(t, d, next, true)
		if i%3 == 2 {
			wantBoot(t, d, next, true)
			wantBoot(t, d, next, true)
			wantBoot(t, d, good, false)
			try(t, d, next)
			wantBoot(t, d, next, true)
		}
		want(t, "Confirm", d.Confirm(), api.OK)
		wantState(t, d, api.State{Version: version, Floor: 300, Trial: -1, Running: 1})
		if i%2 == 0 {
			d = reopen(t, c)
		}
		for j := 0; j < 5; j++ {
			wantBoot(t, d, next, false)
		}
		good = next
		take(t, d, image(299, 5), 8)
		want(t, "Activate", d.Activate(), api.ErrOld)
	}
}

// P14: the floor is the good image's version, and the next image is held to it.
func TestP14Raise(t *testing.T) {
	for _, version := range []int{3, 4, 254, 255, 256, 257, 511, 512, 65534, 65535} {
		c, d := device(t, image(3, 9))
		want(t, "Raise", d.Raise(), api.OK)
		wantState(t, d, api.State{Version: 3, Floor: 3, Trial: -1})
		try(t, d, image(version, 2))
		wantBoot(t, d, image(version, 2), true)
		want(t, "Confirm", d.Confirm(), api.OK)
		for i := 0; i < 2; i++ {
			want(t, "Raise", d.Raise(), api.OK)
			wantState(t, d, api.State{Version: version, Floor: version, Trial: -1, Running: 1})
		}
		d = reopen(t, c)
		wantState(t, d, api.State{Version: version, Floor: version, Trial: -1})
		take(t, d, image(version-1, 2), 8)
		want(t, "Activate below the floor", d.Activate(), api.ErrOld)
		try(t, d, image(version, 3))
		wantBoot(t, d, image(version, 3), true)
	}
}

// P14: while an image is on trial the floor stays, whatever runs and however many tries are left.
func TestP14OnTrial(t *testing.T) {
	good, next := image(5, 9), image(6, 2)
	c, d := tried(t, image(3, 1), good)
	wantBoot(t, d, good, true)
	want(t, "Confirm", d.Confirm(), api.OK)
	try(t, d, next)
	for tries := 3; tries >= 0; tries-- {
		for i := 0; i < 2; i++ {
			bytes := bytesOf(c)
			want(t, "Raise", d.Raise(), api.ErrTrial)
			if bytesOf(c) != bytes {
				t.Fatal("Raise changed the chip")
			}
			if s := d.State(); s.Floor != 3 || s.Trial != 6 || s.Tries != tries {
				t.Fatalf("State = %+v", s)
			}
			d = reopen(t, c)
		}
		d.Boot()
	}
	want(t, "Raise", d.Raise(), api.OK)
	wantState(t, d, api.State{Version: 5, Floor: 5, Trial: -1, Running: 1})
}

// P14: what is staged stays, and is held to the new floor.
func TestP14Staged(t *testing.T) {
	for version := 3; version <= 6; version++ {
		for came := 0; came <= 13; came++ {
			c, d := tried(t, image(3, 9), image(5, 9))
			wantBoot(t, d, image(5, 9), true)
			want(t, "Confirm", d.Confirm(), api.OK)
			next := image(version, 2)
			want(t, "Stage", d.Stage(13), api.OK)
			for at := 0; at < came; at++ {
				want(t, "Write", d.Write(next[at:at+1]), api.OK)
			}
			want(t, "Raise", d.Raise(), api.OK)
			wantState(t, d, api.State{Version: 5, Floor: 5, Trial: -1, Size: 13, Got: came, Running: 1})
			d = reopen(t, c)
			for at := came; at < 13; at++ {
				want(t, "Write", d.Write(next[at:at+1]), api.OK)
			}
			if version < 5 {
				want(t, "Activate", d.Activate(), api.ErrOld)
				continue
			}
			want(t, "Activate", d.Activate(), api.OK)
			wantBoot(t, d, next, true)
		}
	}
}

// P15: nothing is left of what is staged, however much of it has come; what runs goes on.
func TestP15Staged(t *testing.T) {
	good := image(3, 9)
	for came := 0; came <= 20; came++ {
		for running := 0; running <= 1; running++ {
			c, d := device(t, good)
			want(t, "Drop", d.Drop(), api.ErrIdle)
			want(t, "Stage", d.Stage(20), api.OK)
			for at := 0; at < came; at++ {
				want(t, "Write", d.Write("\x00"), api.OK)
			}
			if running == 1 {
				wantBoot(t, d, good, false)
			}
			want(t, "Drop", d.Drop(), api.OK)
			wantIdle(t, c, d, api.State{Version: 3, Floor: 3, Trial: -1, Running: running})
			try(t, d, image(4, 9))
			wantBoot(t, d, image(4, 9), true)
		}
	}
}

// wantIdle: nothing is on trial, and nothing staged, now and at the next Open; the chip is as it was behind this.
func wantIdle(t *testing.T, c *chip.Chip, d *twinboot.Device, s api.State) {
	t.Helper()
	wantState(t, d, s)
	bytes := bytesOf(c)
	want(t, "Drop once more", d.Drop(), api.ErrIdle)
	want(t, "Write", d.Write("a"), api.ErrIdle)
	want(t, "Activate", d.Activate(), api.ErrIdle)
	want(t, "Confirm", d.Confirm(), api.ErrRun)
	if bytesOf(c) != bytes {
		t.Fatal("an error changed the chip")
	}
	wantState(t, d, s)
	s.Running = 0
	wantState(t, reopen(t, withBytes(bytes)), s)
}

// P15: nothing is left of what is on trial, however many tries it has; if it ran, nothing runs, else what runs goes on.
func TestP15OnTrial(t *testing.T) {
	good, next := image(3, 9), image(4, 2)
	for boots := 0; boots <= 3; boots++ {
		for running := 0; running <= 2; running++ {
			c, d := device(t, good)
			if running == 1 {
				wantBoot(t, d, good, false)
			}
			if running == 1 && boots > 0 || running == 2 && boots == 0 {
				continue // it runs itself behind a boot, and only then
			}
			try(t, d, next)
			for i := 0; i < boots; i++ {
				wantBoot(t, d, next, true)
			}
			if running == 0 {
				d = reopen(t, c)
			}
			if s := d.State(); s.Running != running || s.Tries != 3-boots {
				t.Fatalf("State = %+v", s)
			}
			want(t, "Drop", d.Drop(), api.OK)
			wantIdle(t, c, d, api.State{Version: 3, Floor: 3, Trial: -1, Running: running % 2})
			wantBoot(t, d, good, false)
			wantState(t, d, api.State{Version: 3, Floor: 3, Trial: -1, Running: 1})
			wantBoot(t, reopen(t, c), good, false)
		}
	}
}

// P12 to P15: every order of five steps, from several starts, against the model. A step named take brings an image on trial.
func TestEveryOrder(t *testing.T) {
	steps := []string{"take", "Boot", "Confirm", "Raise", "Drop", "Open"}
	for _, start := range [][]string{{}, {"take", "Boot"}, {"take", "Boot", "Confirm"}, {"take", "Boot", "Confirm", "take", "Boot", "Boot"}} {
		for order := 0; order < 6*6*6*6*6; order++ {
			c, d := device(t, image(3, 0))
			m := &modelDevice{good: image(3, 0), floor: 3}
			d, m = wantSteps(t, c, d, m, start...)
			rest := order
			for i := 0; i < 5; i++ {
				d, m = wantSteps(t, c, d, m, steps[rest%6])
				rest /= 6
			}
		}
	}
}

// wantSteps makes the steps on a device and on its model.
func wantSteps(t *testing.T, c *chip.Chip, d *twinboot.Device, m *modelDevice, steps ...string) (*twinboot.Device, *modelDevice) {
	t.Helper()
	for _, step := range steps {
		if step == "Open" {
			d = wantDevice(t, c, m)
			m.running = 0
			continue
		}
		if step != "take" {
			m = wantCall(t, c, d, m, call{name: step})
			continue
		}
		// Above the good one, then below it: so both ways are gone, and no image is like the one before it.
		next := image(9-modelVersion(m.good), m.floor%2)
		m = wantCall(t, c, d, m, call{name: "Stage", size: len(next)})
		m = wantCall(t, c, d, m, call{name: "Write", data: next[:8]})
		m = wantCall(t, c, d, m, call{name: "Write", data: next[8:]})
		m = wantCall(t, c, d, m, call{name: "Activate"})
	}
	return d, m
}

// P2: what runs on one device is nothing to another.
func TestP2TwoRun(t *testing.T) {
	a, b := image(5, 30), image(7, 60)
	_, first := tried(t, a, b)
	_, second := tried(t, a, b)
	wantBoot(t, first, b, true)
	want(t, "Confirm of the other", second.Confirm(), api.ErrRun)
	wantState(t, second, api.State{Version: 5, Floor: 5, Trial: 7, Tries: 3})
	wantBoot(t, second, b, true)
	want(t, "Drop", second.Drop(), api.OK)
	want(t, "Confirm", first.Confirm(), api.OK)
	wantBoot(t, first, b, false)
	wantBoot(t, second, a, false)
}

// P17: the greatest that can be: both images have all their bytes, or one of them and what is staged.
func TestP17MostOfBoot(t *testing.T) {
	good, next := image(9, 109), image(10, 109)
	for _, names := range [][]string{{"Boot", "Boot", "Boot", "Boot"}, {"Drop"}, {"Boot", "Drop", "Raise"}, {"Raise", "Boot", "Confirm", "Raise"}} {
		for _, staged := range []bool{false, true} {
			c, d := device(t, good)
			m := &modelDevice{good: good, floor: 9}
			m = wantCall(t, c, d, m, call{name: "Stage", size: 120})
			for at := 0; at < 120; at += 8 {
				m = wantCall(t, c, d, m, call{name: "Write", data: next[at : at+8]})
			}
			if !staged {
				m = wantCall(t, c, d, m, call{name: "Activate"})
			}
			for _, name := range names {
				m = wantCall(t, c, d, m, call{name: name})
			}
			wantDevice(t, c, m)
		}
	}
}

// P1: in a call that is cut off, and in every call behind it while the power is away, nothing hangs or panics.
func TestP1WithoutPower(t *testing.T) {
	for _, start := range []*chip.Chip{chip.New(), staging(), trying()} {
		for op := -1; op < 40; op++ {
			for _, x := range everyCall() {
				c := withBytes(bytesOf(start))
				d, _ := twinboot.Open(c)
				c.Cut(op, "\x5a\xff\x01")
				if d != nil {
					x.do(c, d)
					for _, y := range everyCall() {
						y.do(c, d)
						d.State()
					}
				}
				twinboot.Format(c, image(3, 2))
				twinboot.Open(c)
			}
		}
	}
}
