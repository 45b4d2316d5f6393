package twinboot_test

import (
	"fmt"
	"math/rand"
	"strings"
	"testing"

	"twinboot/api"
	"twinboot/chip"
	"twinboot/twinboot"
)

// noise: an image of this version with so many bytes of data that look like nothing else, noughts and bytes 255 among them.
func noise(version int, n int) string {
	r := rand.New(rand.NewSource(int64(1000*version + n)))
	data := make([]byte, n)
	for i := range data {
		data[i] = []byte{0, 255, byte(r.Intn(256)), byte(r.Intn(256))}[r.Intn(4)]
	}
	if n > 0 {
		data[n-1] |= 1 // a nought at the end is no data
	}
	s, _ := modelPack(version, r.Intn(128), []api.Segment{seg(0, 128, string(data))})
	return s
}

// noises: the images that come in these tests.
var noises = []string{noise(3, 2), noise(3, 109), noise(4, 2), noise(4, 109), noise(5, 2), noise(5, 30)}

// start: a device as it is ahead of a call that is cut off; none, if m is nil.
type start struct {
	name  string
	bytes string
	m     *modelDevice
	boots bool // what runs is not on the chip: so it is booted each time
}

// opened: a chip with the start's device, which is open.
func (s start) opened(t *testing.T) (*chip.Chip, *twinboot.Device, *modelDevice) {
	t.Helper()
	c := withBytes(s.bytes)
	if s.m == nil {
		return c, nil, nil
	}
	d := wantDevice(t, c, s.m)
	m := idle(s.m)
	if s.boots {
		m = wantCall(t, c, d, m, call{name: "Boot"})
	}
	return c, d, m
}

// idle: the device as it is when it has just been opened.
func idle(m *modelDevice) *modelDevice {
	if m == nil {
		return nil
	}
	now := *m
	now.running = 0
	return &now
}

// startBehind: what is behind these calls; a Boot at the end is made each time.
func startBehind(t *testing.T, name string, calls ...call) start {
	t.Helper()
	c := chip.New()
	var d *twinboot.Device
	var m *modelDevice
	for i, x := range calls {
		if x.name == "Boot" && i == len(calls)-1 {
			return start{name: name, bytes: bytesOf(c), m: m, boots: true}
		}
		m = wantCall(t, c, d, m, x)
		if d == nil {
			d = wantDevice(t, c, m)
		}
	}
	return start{name: name, bytes: bytesOf(c), m: m}
}

// taking: the calls by which an image is staged, and comes.
func taking(s string) []call {
	l := []call{{name: "Stage", size: len(s)}}
	for at := 0; at < len(s); at += 8 {
		l = append(l, call{name: "Write", data: s[at:min(at+8, len(s))]})
	}
	return l
}

func plus(l []call, names ...string) []call {
	for _, name := range names {
		l = append(l, call{name: name})
	}
	return l
}

// starts: what a device may hold, in each way. So many calls of Raise, which change nothing that is held there, are made first: how things lie on the chip may hang on how often they changed.
func starts(t *testing.T, raises int) []start {
	t.Helper()
	var l []start
	add := func(name string, good string, calls ...call) {
		all := []call{{name: "Format", data: good}}
		for i := 0; i < raises; i++ {
			all = append(all, call{name: "Raise"})
		}
		l = append(l, startBehind(t, fmt.Sprint(name, " behind ", raises), append(all, calls...)...))
	}
	small, big := noise(3, 2), noise(3, 109)
	next, nextBig := noise(4, 2), noise(4, 109)
	add("fresh", small)
	add("fresh, big", big)
	add("staged, nothing came", small, taking(next)[:1]...)
	add("staged, some came", small, taking(nextBig)[:4]...)
	add("staged, all came", big, taking(next)...)
	add("staged, all came, big", big, taking(nextBig)...)
	add("on trial", small, plus(taking(next), "Activate")...)
	add("on trial, runs", big, plus(taking(next), "Activate", "Boot")...)
	add("on trial, runs, big", big, plus(taking(nextBig), "Activate", "Boot", "Boot")...)
	add("on trial, runs the last time", small, plus(taking(next), "Activate", "Boot", "Boot", "Boot")...)
	spent := plus(taking(next), "Activate", "Boot", "Boot", "Boot")
	// The refused Stage changes nothing: with it the last Boot is not at the end, and nothing runs.
	add("on trial, no try is left", small, append(spent, call{name: "Stage"})...)
	above := plus(taking(noise(5, 30)), "Activate", "Boot", "Confirm")
	add("above the floor", small, above...)
	add("above the floor, staged", small, append(above, taking(next)...)...)
	return l
}

// callsAt: each call once, as it could be made there; a Write brings the next bytes of some image.
func callsAt(m *modelDevice) []call {
	if m == nil {
		return []call{{name: "Format", data: noise(3, 2)}, {name: "Format", data: noise(4, 109)}}
	}
	l := plus([]call{{name: "Stage", size: 13}, {name: "Stage", size: 120}}, "Activate", "Boot", "Confirm", "Raise", "Drop")
	if rest := restOf(m); rest != "" {
		l = append(l, call{name: "Write", data: rest[:1]}, call{name: "Write", data: rest[:min(8, len(rest))]})
	}
	return l
}

// restOf: what is still to come of what is staged, so that it is an image, if it can be one of noises.
func restOf(m *modelDevice) string {
	for _, s := range noises {
		if len(s) == m.size && strings.HasPrefix(s, m.got) {
			return s[len(m.got):]
		}
	}
	return xs(m.size - len(m.got))
}

// wantHeld: the device on the chip holds what the model tells, each byte of it, and goes on as the model does. All is done on copies: the chip stays as it is.
func wantHeld(t *testing.T, c *chip.Chip, m *modelDevice) {
	t.Helper()
	bytes := bytesOf(c)
	copied := withBytes(bytes)
	d := wantDevice(t, copied, m)
	if m == nil {
		wantCalls(t, copied, nil, nil, call{name: "Format", data: noise(5, 30)})
		return
	}
	// The one on trial, till its tries are gone, and then the good one.
	wantCalls(t, copied, d, m, plus(nil, "Boot", "Boot", "Boot", "Boot", "Confirm", "Raise")...)
	if m.size == 0 {
		return
	}
	copied = withBytes(bytes)
	d = wantDevice(t, copied, m)
	var calls []call
	for rest := restOf(m); rest != ""; rest = rest[min(8, len(rest)):] {
		calls = append(calls, call{name: "Write", data: rest[:min(8, len(rest))]})
	}
	wantCalls(t, copied, d, m, plus(calls, "Activate", "Boot", "Confirm", "Boot")...)
}

// wantCalls makes calls on a device that has just been opened, or was not there, and on its model.
func wantCalls(t *testing.T, c *chip.Chip, d *twinboot.Device, m *modelDevice, calls ...call) {
	t.Helper()
	m = idle(m)
	for _, x := range calls {
		m = wantCall(t, c, d, m, x)
		if d == nil {
			d = wantDevice(t, c, m)
		}
	}
}

// found: what Open and State tell of a chip; an empty one, if there is no device.
func found(c *chip.Chip) api.State {
	d, e := twinboot.Open(c)
	if e != api.OK {
		return api.State{}
	}
	return d.State()
}

func modelFound(m *modelDevice) api.State {
	if m == nil {
		return api.State{}
	}
	return idle(m).state()
}

// cutOff makes a call in which the power is cut, and gives the power back. Then the chip holds what it did, or what it should behind the call: the answer is the one of the two that it is.
func cutOff(t *testing.T, c *chip.Chip, d *twinboot.Device, m *modelDevice, x call, op int, torn string) *modelDevice {
	t.Helper()
	ops := c.Ops()
	c.Cut(op, torn)
	x.do(c, d)
	if n := c.Ops() - ops; n > 64 || c.Dead() && n != max(op, 0)+1 {
		t.Fatalf("%s, cut off at %d, made %d operations", x.name, op, n)
	}
	whole := !c.Dead()
	c.Restore()
	then, _ := x.model(m)
	// Two that State tells alike hold the same here: no call changes bytes alone.
	if whole || found(c) == modelFound(then) {
		m = then
	}
	if s := found(c); s != modelFound(m) {
		t.Fatalf("%s(%d %x), cut off at %d, bits %x: %+v; it was %+v, and should become that, or %+v", x.name, x.size, x.data, op, torn, s, modelFound(m), modelFound(then))
	}
	return idle(m)
}

// opsOf: how many operations a call makes there.
func opsOf(t *testing.T, s start, x call) int {
	t.Helper()
	c, d, m := s.opened(t)
	n := c.Ops()
	wantCall(t, c, d, m, x)
	return c.Ops() - n
}

// tears: bits of an operation, for a cut: none, all, every bit of a byte alone or left out, the bits of some bytes, and some at random.
func tears(r *rand.Rand) []string {
	l := []string{"", "\xff", "\x0f", "\xf0", "\x55", "\xaa", "\xff\x00", "\x00\xff", "\xff\x00\x00\x00\x00\x00\x00\x00", "\x00\xff\xff\xff\xff\xff\xff\xff"}
	for k := 0; k < 8; k++ {
		l = append(l, string([]byte{1 << k}), string([]byte{255 ^ 1<<k}))
	}
	for i := 0; i < 6; i++ {
		l = append(l, randomTear(r))
	}
	return l
}

// randomTear: few bits, about half of them, or most; for a byte, for eight or for a whole sector.
func randomTear(r *rand.Rand) string {
	b := make([]byte, []int{1, 8, 256}[r.Intn(3)])
	kind := r.Intn(3)
	for i := range b {
		b[i] = []byte{byte(r.Intn(256)), byte(r.Intn(256) & r.Intn(256) & r.Intn(256)), byte(r.Intn(256) | r.Intn(256) | r.Intn(256))}[kind]
	}
	return string(b)
}

// tally: how often a call that was cut off had done nothing, and all.
type tally struct{ ahead, behind map[string]int }

func newTally() tally { return tally{ahead: map[string]int{}, behind: map[string]int{}} }

func (y tally) count(x call, before *modelDevice, now *modelDevice) {
	if modelFound(before) == modelFound(now) {
		y.ahead[x.name]++
	} else {
		y.behind[x.name]++
	}
}

// want: each of the calls that change something was seen both ways.
func (y tally) want(t *testing.T, names ...string) {
	t.Helper()
	for _, name := range names {
		if y.ahead[name] == 0 || y.behind[name] == 0 {
			t.Errorf("%s: %d ahead, %d behind", name, y.ahead[name], y.behind[name])
		}
	}
}

// P16: each call, cut off at each of its operations, in many ways, from all that a device may hold.
func TestP16EachOperation(t *testing.T) {
	for raises := 0; raises < 6; raises++ {
		t.Run(fmt.Sprint(raises), func(t *testing.T) {
			t.Parallel()
			r := rand.New(rand.NewSource(int64(12 + raises)))
			seen := newTally()
			for _, s := range starts(t, raises) {
				for _, x := range callsAt(s.m) {
					wantCutOff(t, r, s, x, seen)
				}
			}
			seen.want(t, "Stage", "Write", "Activate", "Boot", "Confirm", "Raise", "Drop")
		})
	}
}

// wantCutOff cuts a call off at each of its operations, in many ways.
func wantCutOff(t *testing.T, r *rand.Rand, s start, x call, seen tally) {
	t.Helper()
	for op := opsOf(t, s, x) - 1; op >= -1; op-- {
		for _, torn := range tears(r) {
			c, d, m := s.opened(t)
			now := cutOff(t, c, d, m, x, op, torn)
			wantHeld(t, c, now)
			seen.count(x, m, now)
		}
	}
}

// P16: each call, cut off at each of its operations, with each bit of that one done alone, and each one left out.
func TestP16EachBit(t *testing.T) {
	seen := newTally()
	for _, s := range starts(t, 1) {
		for _, x := range callsAt(s.m) {
			for op := opsOf(t, s, x) - 1; op >= 0; op-- {
				for _, torn := range eachBit(t, s, x, op) {
					c, d, m := s.opened(t)
					seen.count(x, m, cutOff(t, c, d, m, x, op, torn))
				}
			}
		}
	}
	seen.want(t, "Stage", "Write", "Activate", "Boot", "Confirm", "Raise", "Drop")
}

// eachBit: each bit of this operation alone, and each one left out: it lays 8 bytes at most, or else it erases a sector.
func eachBit(t *testing.T, s start, x call, op int) []string {
	t.Helper()
	none := cutBytes(t, s, x, op, "")
	all := cutBytes(t, s, x, op, "\xff")
	n := 8
	for at := range none {
		if all[at]&^none[at] != 0 {
			n = chip.Size
		}
	}
	var l []string
	for k := 0; k < 8*n; k++ {
		for _, rest := range []string{"\x00", "\xff"} {
			b := []byte(strings.Repeat(rest, n))
			b[k/8] ^= 1 << (k % 8)
			l = append(l, string(b))
		}
	}
	return l
}

// cutBytes: the chip's bytes behind a call that was cut off.
func cutBytes(t *testing.T, s start, x call, op int, torn string) string {
	t.Helper()
	c, d, m := s.opened(t)
	cutOff(t, c, d, m, x, op, torn)
	return bytesOf(c)
}

// P16: a call is cut off behind another one that was cut off: the chip is as no call leaves it that is made in full.
func TestP16Again(t *testing.T) {
	for i := 0; i < 6; i++ {
		t.Run(fmt.Sprint(i), func(t *testing.T) {
			t.Parallel()
			r := rand.New(rand.NewSource(int64(20 + i)))
			seen := newTally()
			for j, s := range starts(t, i) {
				for k, x := range callsAt(s.m) {
					for op := opsOf(t, s, x) - 1; op >= 0; op-- {
						cutTwice(t, r, s, x, op, randomTear(r), seen)
						cutTwice(t, r, s, x, op, []string{"", "\xff"}[(j+k+op)%2], seen)
					}
				}
			}
			seen.want(t, "Stage", "Write", "Activate", "Boot", "Raise", "Drop")
		})
	}
}

// cutTwice cuts a call off, and then each call that can follow it, which is then made in full.
func cutTwice(t *testing.T, r *rand.Rand, s start, x call, op int, torn string, seen tally) {
	t.Helper()
	c, d, m := s.opened(t)
	m = cutOff(t, c, d, m, x, op, torn)
	bytes := bytesOf(c)
	for _, y := range callsAt(m) {
		again := start{bytes: bytes, m: m}
		n := opsOf(t, again, y)
		if n == 0 {
			continue
		}
		c, d, m := again.opened(t)
		now := cutOff(t, c, d, m, y, r.Intn(n), randomTear(r))
		seen.count(y, m, now)
		wantHeld(t, c, now)
		d = wantDevice(t, c, now)
		wantCalls(t, c, d, now, y)
	}
}

// P16: the power is cut in every other call, and one image behind the other comes, is tried and stays all the same.
func TestP16ComesInTheEnd(t *testing.T) {
	r := rand.New(rand.NewSource(30))
	for i := 0; i < 40; i++ {
		c, d := device(t, noise(3, 2))
		m := &modelDevice{good: noise(3, 2), floor: 3}
		for _, next := range []string{noise(4, 2), noise(5, 30), noise(4, 109), noise(3, 109)} {
			for steps := 0; m.good != next; steps++ {
				if steps > 5000 {
					t.Fatalf("it does not come: %+v", m.state())
				}
				x := leadingTo(m, next)
				if r.Intn(2) > 0 {
					m = wantCall(t, c, d, m, x)
					continue
				}
				m = cutOff(t, c, d, m, x, r.Intn(12), randomTear(r))
				d = wantDevice(t, c, m)
			}
		}
		wantHeld(t, c, &modelDevice{good: noise(3, 109), floor: 3})
	}
}

// leadingTo: the call that is next on the way on which an image becomes the good one.
func leadingTo(m *modelDevice, next string) call {
	switch {
	case m.running == 2:
		return call{name: "Confirm"}
	case m.trial != "":
		return call{name: "Boot"}
	case m.size != len(next):
		return call{name: "Stage", size: len(next)}
	case len(m.got) < m.size:
		return call{name: "Write", data: next[len(m.got):min(len(m.got)+8, m.size)]}
	}
	return call{name: "Activate"}
}

// P16: a Format that is cut off makes no device, or the one that it was to make; never that of a Format before it.
func TestP16Format(t *testing.T) {
	r := rand.New(rand.NewSource(31))
	seen := newTally()
	blank := start{bytes: bytesOf(chip.New())}
	for _, x := range []call{{name: "Format", data: noise(3, 2)}, {name: "Format", data: noise(4, 109)}} {
		wantCutOff(t, r, blank, x, seen)
		for op := opsOf(t, blank, x) - 1; op >= 0; op-- {
			for _, torn := range tears(r) {
				cutFormats(t, r, chip.New(), x, op, torn, seen)
			}
		}
	}
	seen.want(t, "Format")
}

// cutFormats cuts off a Format, and others behind it, till there is a device.
func cutFormats(t *testing.T, r *rand.Rand, c *chip.Chip, x call, op int, torn string, seen tally) {
	t.Helper()
	m := cutOff(t, c, nil, nil, x, op, torn)
	for i := 0; m == nil; i++ {
		next := call{name: "Format", data: noises[i%len(noises)]}
		if i > 20 {
			m = wantCall(t, c, nil, m, next)
			break
		}
		m = cutOff(t, c, nil, m, next, r.Intn(30), randomTear(r))
		seen.count(next, nil, m)
	}
	wantHeld(t, c, m)
	d := wantDevice(t, c, m)
	// Nothing is left of the others that could come up later.
	m = cutOff(t, c, d, m, call{name: "Stage", size: 13}, r.Intn(5), randomTear(r))
	wantHeld(t, c, m)
	wantCall(t, c, nil, m, call{name: "Format", data: noise(5, 2)})
}

// P16: Format on a chip with bytes of others.
func TestP16FormatOnStrangeBytes(t *testing.T) {
	r := rand.New(rand.NewSource(32))
	seen := newTally()
	for i, bytes := range strangeBytes() {
		if found(withBytes(bytes)) != (api.State{}) {
			continue
		}
		x := call{name: "Format", data: noises[i%len(noises)]}
		for op := 0; op < 8; op++ {
			cutFormats(t, r, withBytes(bytes), x, op, randomTear(r), seen)
		}
	}
	seen.want(t, "Format")
}

// P16: the power is cut in Open, on a chip as a call leaves it that is made in full, or that is cut off.
func TestP16Open(t *testing.T) {
	r := rand.New(rand.NewSource(33))
	all := append(starts(t, 0), starts(t, 3)...)
	all = append(all, start{bytes: bytesOf(chip.New())})
	for _, s := range all {
		cutOpens(t, r, withBytes(s.bytes), s.m)
		for _, x := range callsAt(s.m) {
			for op := opsOf(t, s, x) - 1; op >= 0; op-- {
				c, d, m := s.opened(t)
				m = cutOff(t, c, d, m, x, op, randomTear(r))
				cutOpens(t, r, c, m)
			}
		}
	}
}

// cutOpens cuts the power in Open, again and again: what the chip holds stays.
func cutOpens(t *testing.T, r *rand.Rand, c *chip.Chip, m *modelDevice) {
	t.Helper()
	for op := -1; op < 6; op++ {
		c.Cut(op, randomTear(r))
		before := c.Ops()
		twinboot.Open(c)
		if n := c.Ops() - before; n > 64 {
			t.Fatalf("Open made %d operations", n)
		}
		c.Restore()
		wantHeld(t, c, m)
	}
}

// P16: random calls, of which many are cut off, again and again.
func TestP16Often(t *testing.T) {
	r := rand.New(rand.NewSource(11))
	seen := newTally()
	for i := 0; i < 1000; i++ {
		c := chip.New()
		var m *modelDevice
		var d *twinboot.Device
		next := noises[r.Intn(len(noises))]
		for j := 0; j < 80; j++ {
			x := randomCall(r, m, next)
			if d != nil && r.Intn(3) > 0 {
				m = wantCall(t, c, d, m, x)
				continue
			}
			now := cutOff(t, c, d, m, x, r.Intn(40), randomTear(r))
			seen.count(x, m, now)
			m = now
			d = wantDevice(t, c, m)
			if r.Intn(4) == 0 {
				wantHeld(t, c, m)
			}
			if x.name == "Activate" {
				next = noises[r.Intn(len(noises))]
			}
		}
		wantHeld(t, c, m)
	}
	seen.want(t, "Format", "Stage", "Write", "Activate", "Boot", "Confirm", "Raise", "Drop")
}

// P2: chips with the same bytes that are cut off alike are alike behind it; and what is cut off on one chip is nothing to another.
func TestP2CutAlike(t *testing.T) {
	r := rand.New(rand.NewSource(34))
	for _, s := range starts(t, 2) {
		for _, x := range callsAt(s.m) {
			for op := opsOf(t, s, x) - 1; op >= 0; op-- {
				torn := randomTear(r)
				other, open, m := s.opened(t)
				first := cutBytes(t, s, x, op, torn)
				if second := cutBytes(t, s, x, op, torn); second != first {
					t.Fatalf("%s: %s, cut off at %d, bits %x: the chips differ", s.name, x.name, op, torn)
				}
				wantCall(t, other, open, m, x)
			}
		}
	}
}
