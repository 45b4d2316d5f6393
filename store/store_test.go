package store

import (
	"math/rand"
	"strings"
	"testing"

	"twinboot/api"
	"twinboot/chip"
	"twinboot/images"
)

func packed(version int, data string) string {
	image, _ := images.Pack(version, 0, []api.Segment{{Addr: 0, Size: 128, Data: data}})
	return image
}

// samples: what a device may hold, least and most of it.
func samples() []Held {
	small := packed(0, "")
	mid := packed(300, "a\x00\xffb")
	big := packed(65535, strings.Repeat("\xa5", 109))
	return []Held{
		{Good: small},
		{Good: big, Floor: 65535},
		{Good: mid, Floor: 299, Size: 1},
		{Good: mid, Floor: 300, Size: 120, Got: "12345"},
		{Good: big, Floor: 0, Size: 120, Got: strings.Repeat("\x00", 120)},
		{Good: big, Floor: 1, Size: 120, Got: strings.Repeat("\xff", 120)},
		{Good: small, Floor: 0, Trial: mid, Tries: 3},
		{Good: mid, Floor: 256, Trial: big, Tries: 0},
		{Good: big, Floor: 300, Trial: mid, Tries: 1},
	}
}

// made: a chip on which a device was made, and then held all of these, one behind the other.
func made(t *testing.T, held ...Held) *chip.Chip {
	t.Helper()
	c := chip.New()
	Create(c, held[0])
	for _, h := range held[1:] {
		Save(c, h)
	}
	wantHeld(t, c, held[len(held)-1])
	return c
}

func wantHeld(t *testing.T, c *chip.Chip, want Held) {
	t.Helper()
	if h, e := Load(c); h != want || e != api.OK {
		t.Fatalf("Load = %#v, %d, want %#v", h, e, want)
	}
}

func wantBlank(t *testing.T, c *chip.Chip) {
	t.Helper()
	if h, e := Load(c); h != (Held{}) || e != api.ErrBlank {
		t.Fatalf("Load = %#v, %d, want ErrBlank", h, e)
	}
}

func bytesOf(c *chip.Chip) string { return c.Read(0, chip.Sectors*chip.Size) }

// withBytes: a chip with these bytes.
func withBytes(s string) *chip.Chip {
	c := chip.New()
	for at := 0; at < len(s); at += chip.MaxProgram {
		c.Program(at, s[at:at+chip.MaxProgram])
	}
	return c
}

// bit: n bytes with one bit that is 1.
func bit(n int, k int) string {
	b := make([]byte, n)
	b[k/8] = 1 << (k % 8)
	return string(b)
}

func turned(s string) string {
	b := []byte(s)
	for i := range b {
		b[i] ^= 255
	}
	return string(b)
}

// tears: which bits an operation that is cut may have done; every bit alone and every one left out, and some at random.
func tears(r *rand.Rand) []string {
	l := []string{"", "\xff", "\x55", "\xaa", "\x0f", "\xf0", "\x7f", "\xfe", "\xff\x00"}
	for k := 0; k < 64; k++ {
		one := bit(8, k)
		l = append(l, one, turned(one))
	}
	for i := 0; i < 20; i++ {
		l = append(l, randomTear(r))
	}
	return l
}

// randomTear: few bits, about half of them, or most.
func randomTear(r *rand.Rand) string {
	b := make([]byte, []int{1, 8, 256}[r.Intn(3)])
	r.Read(b)
	and, or := make([]byte, len(b)), make([]byte, len(b))
	r.Read(and)
	r.Read(or)
	kind := r.Intn(3)
	for i := range b {
		if kind == 0 {
			b[i] &= and[i] & or[i]
		}
		if kind == 1 {
			b[i] |= and[i] | or[i]
		}
	}
	return string(b)
}

func TestLoadOfNewChip(t *testing.T) {
	c := chip.New()
	wantBlank(t, c)
	Save(c, samples()[0])
	wantBlank(t, c)
	if bytesOf(c) != bytesOf(chip.New()) {
		t.Error("Save without a device changed the chip")
	}
}

func TestSaveAndLoad(t *testing.T) {
	for _, a := range samples() {
		for _, b := range samples() {
			c := made(t, a, b, a, b)
			wantHeld(t, withBytes(bytesOf(c)), b)
			for i := 0; i < 7; i++ {
				before := c.Ops()
				Save(c, a)
				if n := c.Ops() - before; n > api.MaxOps {
					t.Fatalf("Save made %d operations", n)
				}
				wantHeld(t, c, a)
				Save(c, b)
				wantHeld(t, c, b)
			}
		}
	}
}

// A page is written as a whole and apart from the one that counts: the first pages of a long life are not seen again.
func TestSaveOften(t *testing.T) {
	l := samples()
	c := made(t, l[0])
	for i := 0; i < 3000; i++ {
		h := l[i*i%len(l)]
		Save(c, h)
		wantHeld(t, c, h)
	}
}

// Save, cut at each operation, in many ways.
func TestSaveCut(t *testing.T) {
	r := rand.New(rand.NewSource(3))
	masks := tears(r)
	l := samples()
	for i, before := range l {
		after := l[(i+4)%len(l)]
		for lives := 1; lives <= 4; lives++ {
			life := append([]Held{l[(i+2)%len(l)], l[(i+5)%len(l)], l[(i+7)%len(l)]}[:lives-1:lives-1], before)
			start := bytesOf(made(t, life...))
			whole := withBytes(start)
			n := whole.Ops()
			Save(whole, after)
			n = whole.Ops() - n
			for op := 0; op < n; op++ {
				for _, mask := range masks {
					cutSave(t, start, op, mask, before, after)
				}
			}
		}
	}
}

// cutSave: a Save that is cut, and another one behind it.
func cutSave(t *testing.T, start string, op int, mask string, before Held, after Held) {
	t.Helper()
	c := withBytes(start)
	c.Cut(op, mask)
	Save(c, after)
	c.Restore()
	h, e := Load(c)
	if e != api.OK || h != before && h != after {
		t.Fatalf("cut at %d, bits %x: Load = %#v, %d, want %#v or %#v", op, mask, h, e, before, after)
	}
	again := samples()[op%len(samples())]
	Save(c, again)
	wantHeld(t, c, again)
}

// The erase is cut, with each bit of the page done alone, and each one left out.
func TestSaveCutInErase(t *testing.T) {
	l := samples()
	for _, life := range [][]Held{{l[0], l[6]}, {l[6], l[4], l[3]}, {l[4], l[8], l[7], l[6]}} {
		start := bytesOf(made(t, life...))
		for k := 0; k < 8*chip.Size; k++ {
			one := bit(chip.Size, k)
			cutSave(t, start, 0, one, life[len(life)-1], l[5])
			cutSave(t, start, 0, turned(one), life[len(life)-1], l[5])
		}
	}
}

// The power is cut again and again.
func TestSaveCutOften(t *testing.T) {
	r := rand.New(rand.NewSource(4))
	l := samples()
	now := l[0]
	c := made(t, now)
	stayed, came := 0, 0
	for i := 0; i < 40000; i++ {
		next := l[r.Intn(len(l))]
		if r.Intn(5) > 0 {
			c.Cut(r.Intn(36), randomTear(r))
		}
		Save(c, next)
		whole := !c.Dead()
		c.Restore()
		h, e := Load(c)
		if e != api.OK || h != next && (whole || h != now) {
			t.Fatalf("step %d: %#v, %d, want %#v or %#v", i, h, e, now, next)
		}
		if h == next {
			came++
		} else {
			stayed++
		}
		now = h
	}
	if stayed < 1000 || came < 1000 {
		t.Errorf("%d stayed, %d came", stayed, came)
	}
}

// Create, cut at each operation in many ways, and then cut again, before it is done in full.
func TestCreateCut(t *testing.T) {
	r := rand.New(rand.NewSource(5))
	masks := tears(r)
	for _, h := range samples() {
		whole := chip.New()
		Create(whole, h)
		if whole.Ops() > api.MaxOps {
			t.Fatalf("Create made %d operations", whole.Ops())
		}
		for op := 0; op < whole.Ops(); op++ {
			for _, mask := range masks {
				c := chip.New()
				cutCreate(t, c, op, mask, h)
				for i := 0; i < 3; i++ {
					cutCreate(t, c, r.Intn(whole.Ops()), randomTear(r), h)
				}
				if _, e := Load(c); e != api.OK {
					Create(c, h)
				}
				wantHeld(t, c, h)
			}
		}
	}
}

// cutCreate: a Create that is cut makes no device, or the one that it was to make.
func cutCreate(t *testing.T, c *chip.Chip, op int, mask string, want Held) {
	t.Helper()
	if _, e := Load(c); e == api.OK {
		return
	}
	c.Cut(op, mask)
	Create(c, want)
	c.Restore()
	if h, e := Load(c); e != api.ErrBlank && h != want {
		t.Fatalf("cut at %d, bits %x: Load = %#v, %d, want none or %#v", op, mask, h, e, want)
	}
}

// ruined: the bytes of a device with bits made 0, on both pages, on the mark, or everywhere.
func ruined(r *rand.Rand, device string) string {
	ruin := []byte(device)
	kind := r.Intn(4)
	if kind == 0 {
		return string(make([]byte, len(device)))
	}
	if kind != 1 {
		ruin[r.Intn(headBytes+13)] &= byte(r.Intn(256))
		ruin[chip.Size+r.Intn(headBytes+13)] &= byte(r.Intn(256))
	}
	if kind != 2 {
		ruin[markSector*chip.Size] &= byte(r.Intn(256))
	}
	return string(ruin)
}

// There is no device, for some bits are 0 that should not be; an erase that is cut just so that these become 1 does not bring one into being.
func TestCreateOnRuins(t *testing.T) {
	r := rand.New(rand.NewSource(6))
	l := samples()
	ruins := 0
	for i := 0; i < 1000; i++ {
		life := []Held{l[i%len(l)], l[i/7%len(l)], l[i/3%len(l)]}
		device := bytesOf(made(t, life[:1+r.Intn(3)]...))
		ruin := ruined(r, device)
		if _, e := Load(withBytes(ruin)); e == api.OK {
			continue
		}
		ruins++
		for op := 0; op < 6; op++ {
			for sector := 0; sector < 3; sector++ {
				mask := make([]byte, chip.Size)
				for k := range mask {
					mask[k] = device[sector*chip.Size+k] &^ ruin[sector*chip.Size+k]
				}
				cutCreate(t, withBytes(ruin), op, string(mask), l[3])
			}
		}
	}
	if ruins < 400 {
		t.Errorf("%d ruins only", ruins)
	}
}

// Behind Create nothing of what lay on the chip before is left in the way: all that is promised of a cut holds.
func TestCreateOnStrangeBytes(t *testing.T) {
	r := rand.New(rand.NewSource(7))
	l := samples()
	for i := 0; i < 300; i++ {
		b := make([]byte, chip.Sectors*chip.Size)
		r.Read(b)
		if i < 256 {
			b = []byte(strings.Repeat(string([]byte{byte(i)}), len(b)))
		}
		c := withBytes(string(b))
		wantBlank(t, c)
		now := l[i%len(l)]
		before := c.Ops()
		Create(c, now)
		if n := c.Ops() - before; n > api.MaxOps {
			t.Fatalf("Create made %d operations", n)
		}
		wantHeld(t, c, now)
		start := bytesOf(c)
		for op := 0; op < 5; op++ {
			cutSave(t, start, op, randomTear(r), now, l[(i+1)%len(l)])
		}
	}
}

// Pages that stand as they should, but for what no device can hold.
func TestLoadRefuses(t *testing.T) {
	good := packed(300, "ab")
	old := packed(299, "ab")
	for _, h := range []Held{
		{},
		{Good: "TB", Floor: 0},
		{Good: good[:len(good)-1] + "x", Floor: 300},
		{Good: good + "x", Floor: 300},
		{Good: good, Floor: 301},
		{Good: good, Floor: 65535},
		{Good: good, Floor: 300, Tries: 1},
		{Good: good, Floor: 300, Size: 121},
		{Good: good, Floor: 300, Size: 255},
		{Good: good, Floor: 300, Size: 3, Got: "abcd"},
		{Good: good, Floor: 300, Size: 3, Got: "ab", Tries: 1},
		{Good: good, Floor: 300, Trial: "x", Tries: 3},
		{Good: good, Floor: 300, Trial: good, Tries: 4},
		{Good: good, Floor: 300, Trial: old, Tries: 3},
	} {
		c := chip.New()
		Create(c, h)
		wantBlank(t, c)
		c = made(t, samples()[3])
		Save(c, h)
		wantHeld(t, c, samples()[3])
	}
}

// Numbers of bytes that lead behind the end of the page.
func TestLoadOfWrongLengths(t *testing.T) {
	start := bytesOf(made(t, samples()[3]))
	for at := 0; at < headBytes; at++ {
		for b := 0; b < 256; b++ {
			changed := []byte(start)
			changed[at] = byte(b)
			c := withBytes(string(changed))
			if h, e := Load(c); e == api.OK && !h.lawful() {
				t.Fatalf("byte %d is %d: %#v", at, b, h)
			}
		}
	}
	for _, lengths := range []string{"\xff\xff", "\x78\xff", "\xff\x00", "\x7c\x7d"} {
		changed := []byte(start)
		changed[3] = lengths[0]
		changed[6] = lengths[1]
		wantBlank(t, withBytes(string(changed)))
	}
}
