package twinboot_test

import (
	"fmt"
	"math"
	"math/rand"
	"strings"
	"testing"

	"twinboot/api"
	"twinboot/twinboot"
)

const (
	example1 = "TB\x01\x02\x05\x01\x04\x03\x02ab\x3e\xef"
	example3 = "TB\x00\x00\x7f\x02\x00\x01\x00\x7f\x01\x00\x9b\x6f"
)

// spread: n segments of one address each, with gaps between them.
func spread(n int) []api.Segment {
	var segs []api.Segment
	for i := 0; i < n; i++ {
		segs = append(segs, seg(2*i, 1, "x"))
	}
	return segs
}

func xs(n int) string { return strings.Repeat("x", n) }

// shown: the memory in hexadecimal, so that a message has no raw bytes.
func shown(x api.Loaded) string {
	return fmt.Sprintf("{%d %d %x}", x.Version, x.Entry, x.Ram)
}

// listed: the first segments of a list, their data in hexadecimal.
func listed(segs []api.Segment) string {
	s := fmt.Sprintf("%d segments:", len(segs))
	for i := 0; i < len(segs) && i < 9; i++ {
		s += fmt.Sprintf(" (%d %d %.130x)", segs[i].Addr, segs[i].Size, segs[i].Data)
	}
	return s
}

func wantPack(t *testing.T, version int, entry int, segs []api.Segment, image string, want api.Errno) {
	t.Helper()
	if s, e := twinboot.Pack(version, entry, segs); s != image || e != want {
		t.Errorf("Pack(%d, %d, %s) = %x, %d, want %x, %d", version, entry, listed(segs), s, e, image, want)
	}
}

// wantNoImage: Unpack and Load refuse the text, with empty results.
func wantNoImage(t *testing.T, s string) {
	t.Helper()
	if v, n, l, e := twinboot.Unpack(s); v != 0 || n != 0 || l != nil || e != api.ErrImage {
		t.Errorf("Unpack(%.300x) = %d, %d, %s, %d, want ErrImage", s, v, n, listed(l), e)
	}
	if x, e := twinboot.Load(s); x != (api.Loaded{}) || e != api.ErrImage {
		t.Errorf("Load(%.300x) = %s, %d, want ErrImage", s, shown(x), e)
	}
}

// wantImage: Unpack and Load tell this of the text, and Pack makes it again.
func wantImage(t *testing.T, s string, version int, entry int, runs []api.Segment) {
	t.Helper()
	v, n, l, e := twinboot.Unpack(s)
	if v != version || n != entry || !same(l, runs) || e != api.OK {
		t.Errorf("Unpack(%x) = %d, %d, %s, %d, want %d, %d, %s", s, v, n, listed(l), e, version, entry, listed(runs))
	}
	wantPack(t, v, n, l, s, api.OK)
	want := api.Loaded{Version: version, Entry: entry, Ram: modelRam(runs)}
	if x, e := twinboot.Load(s); x != want || e != api.OK {
		t.Errorf("Load(%x) = %s, %d, want %s", s, shown(x), e, shown(want))
	}
}

func TestExample1(t *testing.T) {
	wantPack(t, 258, 5, []api.Segment{seg(4, 3, "ab")}, example1, api.OK)
	want := api.Loaded{Version: 258, Entry: 5, Ram: "\x00\x00\x00\x00\x61\x62" + strings.Repeat("\x00", 122)}
	if x, e := twinboot.Load(example1); x != want || e != api.OK {
		t.Errorf("Load = %s, %d", shown(x), e)
	}
}

func TestExample2(t *testing.T) {
	segs := []api.Segment{seg(5, 2, "b"), seg(4, 1, "a")}
	wantPack(t, 258, 5, segs, example1, api.OK)
	wantPack(t, 258, 5, []api.Segment{seg(5, 2, "b"), seg(4, 2, "a")}, "", api.ErrOverlap)
	wantPack(t, 258, 7, segs, "", api.ErrEntry)
	wantPack(t, -1, 5, segs, "", api.ErrVersion)
	wantPack(t, 258, 5, nil, "", api.ErrSegment)
}

func TestExample3(t *testing.T) {
	wantPack(t, 0, 127, []api.Segment{seg(127, 1, ""), seg(0, 1, "\x00")}, example3, api.OK)
	wantImage(t, example3, 0, 127, []api.Segment{seg(0, 1, ""), seg(127, 1, "")})
}

func TestExample4(t *testing.T) {
	wantPack(t, 1, 0, []api.Segment{seg(0, 128, xs(110))}, "", api.ErrBig)
	image := sealed("TB\x00\x01\x00\x01\x00\x80\x6d" + xs(109))
	if len(image) != 120 {
		t.Fatalf("%d bytes", len(image))
	}
	wantPack(t, 1, 0, []api.Segment{seg(0, 128, xs(109))}, image, api.OK)
	wantImage(t, image, 1, 0, []api.Segment{seg(0, 128, xs(109))})
}

func TestExample5(t *testing.T) {
	last := len(example1) - 1
	for bit := 0; bit < 8; bit++ {
		wantNoImage(t, example1[:last]+string([]byte{example1[last] ^ 1<<bit}))
	}
	wantNoImage(t, example1[:last])
	for b := 0; b < 256; b++ {
		wantNoImage(t, example1+string([]byte{byte(b)}))
	}
}

// P1: no number, list or text leads to a panic.
func TestP1Anything(t *testing.T) {
	odd := []int{math.MinInt, math.MinInt + 1, -65536, -129, -128, -127, -1, 0, 1, 2, 127, 128, 129, 255, 256, 65535, 65536, math.MaxInt - 128, math.MaxInt - 1, math.MaxInt}
	for _, a := range odd {
		for _, b := range odd {
			for _, data := range []string{"", "a", xs(128), xs(1000)} {
				segs := []api.Segment{seg(a, b, data)}
				for _, entry := range odd {
					image, e := modelPack(1, entry, segs)
					wantPack(t, 1, entry, segs, image, e)
				}
				behind := []api.Segment{seg(3, 1, ""), seg(a, b, data)}
				image, e := modelPack(1, 3, behind)
				wantPack(t, 1, 3, behind, image, e)
			}
			image, e := modelPack(a, b, spread(8))
			wantPack(t, a, b, spread(8), image, e)
		}
	}
	wantPack(t, 1, 0, []api.Segment{}, "", api.ErrSegment)
	wantPack(t, 1, 0, make([]api.Segment, 100000), "", api.ErrSegment)
	wantPack(t, 1, 0, []api.Segment{seg(0, 1, xs(1<<20))}, "", api.ErrSegment)
}

// P1: texts of every length, with the beginning of an image or without.
func TestP1AnyText(t *testing.T) {
	for n := 0; n < 300; n++ {
		for _, b := range []string{"\x00", "\x01", "\x03", "T", "\x7f", "\xff"} {
			s := strings.Repeat(b, n)
			for _, text := range []string{s, sealed(s), "TB" + s, sealed("TB" + s), example1 + s, sealed(example1[:11] + s)} {
				if _, ok := modelRead(text); !ok {
					wantNoImage(t, text)
				}
			}
		}
	}
	wantNoImage(t, strings.Repeat("TB\x00\x01", 1<<18))
}

// P1: where several errors apply, the answer is the one named first.
func TestP1FirstError(t *testing.T) {
	wrong := []api.Segment{seg(0, 128, xs(110)), seg(0, 128, xs(110)), seg(0, 0, "")}
	over := []api.Segment{seg(0, 128, xs(110)), seg(127, 1, "")}
	big := []api.Segment{seg(0, 127, xs(110))}
	wantPack(t, -1, 200, wrong, "", api.ErrVersion)
	wantPack(t, 65536, 200, nil, "", api.ErrVersion)
	wantPack(t, 1, 200, wrong, "", api.ErrSegment)
	wantPack(t, 1, 200, over, "", api.ErrOverlap)
	wantPack(t, 1, 0, over, "", api.ErrOverlap)
	wantPack(t, 1, 127, big, "", api.ErrEntry)
	wantPack(t, 1, 126, big, "", api.ErrBig)
}

// P2: neither the list that is handed in nor its spare room is written into.
func TestP2HandedIn(t *testing.T) {
	room := make([]api.Segment, 12)
	for i := range room {
		room[i] = seg(100-3*i, 2, "a\x00")
	}
	before := append([]api.Segment(nil), room...)
	for n := 0; n <= 9; n++ {
		for _, entry := range []int{100, 99} {
			twinboot.Pack(7, entry, room[2:2+n])
			twinboot.Pack(7, entry, room[:n])
			if !same(room, before) {
				t.Fatalf("%d segments: %s, were %s", n, listed(room), listed(before))
			}
		}
	}
}

// P2: an image does not change with the list that it was made of.
func TestP2NotKept(t *testing.T) {
	segs := []api.Segment{seg(4, 3, "ab")}
	image, _ := twinboot.Pack(258, 5, segs)
	segs[0] = seg(9, 9, "zzz")
	if image != example1 {
		t.Errorf("%x", image)
	}
	wantPack(t, 258, 5, []api.Segment{seg(4, 3, "ab")}, example1, api.OK)
}

// P2: what the caller writes into a list that came out, and into its spare room, is seen nowhere else.
func TestP2ComesOut(t *testing.T) {
	for n := 1; n <= 8; n++ {
		image, _ := modelPack(9, 0, spread(n))
		_, _, first, _ := twinboot.Unpack(image)
		_, _, second, _ := twinboot.Unpack(image)
		full := first[:cap(first)]
		for i := range full {
			full[i] = seg(77, 7, "seven")
		}
		if !same(second, spread(n)) {
			t.Fatalf("%d runs: the second list is %s", n, listed(second))
		}
		for _, s := range second[len(second):cap(second)] {
			if s != (api.Segment{}) {
				t.Fatalf("%d runs: shared spare room: %s", n, listed([]api.Segment{s}))
			}
		}
		wantImage(t, image, 9, 0, spread(n))
	}
}

// P2: the answers depend on the arguments alone, not on what was asked before.
func TestP2ArgumentsAlone(t *testing.T) {
	for i := 0; i < 3; i++ {
		wantPack(t, 258, 5, []api.Segment{seg(4, 3, "ab")}, example1, api.OK)
		wantPack(t, 258, 5, nil, "", api.ErrSegment)
		wantImage(t, example3, 0, 127, []api.Segment{seg(0, 1, ""), seg(127, 1, "")})
		wantNoImage(t, example3[1:])
		wantImage(t, example1, 258, 5, []api.Segment{seg(4, 3, "ab")})
	}
}

func TestP3Version(t *testing.T) {
	one := []api.Segment{seg(0, 1, "x")}
	wantPack(t, 0, 0, one, sealed("TB\x00\x00\x00\x01\x00\x01\x01x"), api.OK)
	wantPack(t, 255, 0, one, sealed("TB\x00\xff\x00\x01\x00\x01\x01x"), api.OK)
	wantPack(t, 256, 0, one, sealed("TB\x01\x00\x00\x01\x00\x01\x01x"), api.OK)
	wantPack(t, 65535, 0, one, sealed("TB\xff\xff\x00\x01\x00\x01\x01x"), api.OK)
	for _, v := range []int{-1, 65536, -65536, 1 << 32, math.MinInt, math.MaxInt} {
		wantPack(t, v, 0, one, "", api.ErrVersion)
	}
}

func TestP3Segments(t *testing.T) {
	wantPack(t, 1, 0, spread(1), sealed("TB\x00\x01\x00\x01\x00\x01\x01x"), api.OK)
	image := "TB\x00\x01\x0e\x08"
	for i := 0; i < 8; i++ {
		image += string([]byte{byte(2 * i), 1, 1, 'x'})
	}
	wantPack(t, 1, 14, spread(8), sealed(image), api.OK)
	wantPack(t, 1, 0, spread(9), "", api.ErrSegment)
	wantPack(t, 1, 0, []api.Segment{}, "", api.ErrSegment)
	for _, s := range []api.Segment{
		seg(-1, 1, ""), seg(-1, 2, ""), seg(math.MinInt, 1, ""), seg(math.MinInt, math.MaxInt, ""),
		seg(0, 0, ""), seg(0, -1, ""), seg(0, math.MinInt, ""), seg(128, 0, ""), seg(math.MaxInt, math.MinInt, ""),
		seg(128, 1, ""), seg(127, 2, ""), seg(0, 129, ""), seg(1, 128, ""), seg(math.MaxInt, 1, ""), seg(1, math.MaxInt, ""), seg(math.MaxInt, math.MaxInt, ""),
		seg(0, 1, "ab"), seg(0, 128, xs(129)), seg(127, 1, "\x00\x00"),
	} {
		wantPack(t, 1, 0, []api.Segment{s}, "", api.ErrSegment)
		wantPack(t, 1, 60, []api.Segment{seg(60, 1, ""), s}, "", api.ErrSegment)
	}
	wantPack(t, 1, 127, []api.Segment{seg(127, 1, "z")}, sealed("TB\x00\x01\x7f\x01\x7f\x01\x01z"), api.OK)
	wantPack(t, 1, 127, []api.Segment{seg(0, 128, "")}, sealed("TB\x00\x01\x7f\x01\x00\x80\x00"), api.OK)
}

func TestP3Overlap(t *testing.T) {
	for _, segs := range [][]api.Segment{
		{seg(5, 1, ""), seg(5, 1, "")},
		{seg(4, 2, "a"), seg(5, 2, "b")}, {seg(5, 2, "b"), seg(4, 2, "a")},
		{seg(0, 128, ""), seg(5, 1, "a")}, {seg(5, 1, ""), seg(0, 128, "")},
		{seg(5, 1, ""), seg(9, 1, ""), seg(3, 9, "")},
		{seg(5, 3, "a"), seg(7, 1, "\x00")}, // noughts cover too
	} {
		wantPack(t, 1, 5, segs, "", api.ErrOverlap)
	}
}

func TestP3Entry(t *testing.T) {
	segs := []api.Segment{seg(126, 2, ""), seg(4, 3, "ab"), seg(0, 1, "")}
	for entry := -300; entry <= 300; entry++ {
		image, e := modelPack(1, entry, segs)
		wantPack(t, 1, entry, segs, image, e)
	}
	for _, entry := range []int{-1, 1, 3, 7, 125, 128, 256, 260, -252, math.MinInt, math.MaxInt} {
		wantPack(t, 1, entry, segs, "", api.ErrEntry)
	}
	for _, entry := range []int{0, 4, 5, 6, 126, 127} {
		if s, e := twinboot.Pack(1, entry, segs); e != api.OK || len(s) < 5 || s[4] != byte(entry) {
			t.Errorf("entry %d: %x, %d", entry, s, e)
		}
	}
}

func TestP3Big(t *testing.T) {
	for n := 0; n <= 128; n++ {
		segs := []api.Segment{seg(0, n, xs(n)), seg(n, 128-n, strings.Repeat("\x00", 128-n))}
		if n == 0 {
			segs = segs[1:]
		}
		if n == 128 {
			segs = segs[:1]
		}
		s, e := twinboot.Pack(1, 0, segs)
		if n <= 109 && (e != api.OK || len(s) != 11+n) || n > 109 && (e != api.ErrBig || s != "") {
			t.Errorf("%d bytes of data: %x, %d", n, s, e)
		}
	}
	// Eight runs: 6 bytes, 24 of the runs, 88, 2 of the check.
	segs := spread(7)
	wantPack(t, 1, 0, append(segs, seg(20, 100, xs(82))), "", api.ErrBig)
	if s, e := twinboot.Pack(1, 0, append(segs, seg(20, 100, xs(81)))); len(s) != 120 || e != api.OK {
		t.Errorf("eight runs: %d bytes, %d", len(s), e)
	}
}

// P3: noughts at the end of a run are left out, noughts within it stay, and runs that touch are one.
func TestP3Runs(t *testing.T) {
	head := "TB\x00\x01\x05\x01"
	for _, c := range []struct {
		segs  []api.Segment
		image string
	}{
		{[]api.Segment{seg(5, 4, "a\x00\x00\x00")}, head + "\x05\x04\x01a"},
		{[]api.Segment{seg(5, 4, "\x00\x00\x00\x00")}, head + "\x05\x04\x00"},
		{[]api.Segment{seg(5, 4, "")}, head + "\x05\x04\x00"},
		{[]api.Segment{seg(5, 4, "\x00\x00b")}, head + "\x05\x04\x03\x00\x00b"},
		{[]api.Segment{seg(5, 2, ""), seg(7, 2, "b")}, head + "\x05\x04\x03\x00\x00b"},
		{[]api.Segment{seg(7, 2, "b"), seg(5, 2, "a\x00")}, head + "\x05\x04\x03a\x00b"},
		{[]api.Segment{seg(7, 2, ""), seg(5, 2, "a")}, head + "\x05\x04\x01a"},
		{[]api.Segment{seg(8, 1, "b"), seg(5, 2, "a")}, "TB\x00\x01\x05\x02\x05\x02\x01a\x08\x01\x01b"},
	} {
		wantPack(t, 1, 5, c.segs, sealed(c.image), api.OK)
	}
}

// P3 to P5: many lists, against the model.
func TestP3Model(t *testing.T) {
	r := rand.New(rand.NewSource(1))
	tally := map[api.Errno]int{}
	for i := 0; i < 20000; i++ {
		segs := randomSegments(r)
		if r.Intn(8) == 0 {
			segs[r.Intn(len(segs))].Addr = r.Intn(130) - 1
		}
		version := r.Intn(65536)
		entry := segs[0].Addr
		if r.Intn(8) == 0 {
			entry = r.Intn(130) - 1
		}
		image, e := modelPack(version, entry, segs)
		tally[e]++
		wantPack(t, version, entry, segs, image, e)
		if e != api.OK {
			continue
		}
		runs, ok := modelRead(image)
		if !ok {
			t.Fatalf("the models differ at %x", image)
		}
		wantImage(t, image, version, entry, runs)
	}
	for _, e := range []api.Errno{api.OK, api.ErrSegment, api.ErrOverlap, api.ErrEntry, api.ErrBig} {
		if tally[e] < 50 {
			t.Errorf("the answer %d came %d times only", e, tally[e])
		}
	}
}

// P4: every text that differs from an image in one byte, with the old check and with its own.
func TestP4OneByte(t *testing.T) {
	eight, _ := modelPack(65535, 14, spread(8))
	noughts, _ := modelPack(7, 10, []api.Segment{seg(10, 5, "a\x00b"), seg(16, 1, ""), seg(120, 8, "\x00\x00c")})
	full, _ := modelPack(0, 127, []api.Segment{seg(0, 128, xs(109))})
	for _, image := range []string{example1, example3, eight, noughts, full} {
		for at := 0; at < len(image); at++ {
			for b := 0; b < 256; b++ {
				turned := []byte(image)
				turned[at] = byte(b)
				if string(turned) != image {
					wantNoImage(t, string(turned))
				}
				wantAsModel(t, sealed(string(turned[:len(turned)-2])))
			}
		}
	}
}

// wantAsModel: Unpack and Load tell of the text what the model tells.
func wantAsModel(t *testing.T, s string) {
	t.Helper()
	runs, ok := modelRead(s)
	if !ok {
		wantNoImage(t, s)
		return
	}
	wantImage(t, s, 256*int(s[2])+int(s[3]), int(s[4]), runs)
}

// P4: texts of the right form but for the numbers in them, against the model.
func TestP4Model(t *testing.T) {
	r := rand.New(rand.NewSource(2))
	images := 0
	for i := 0; i < 50000; i++ {
		count := 1 + r.Intn(3)
		at := r.Intn(3)
		text := "TB" + string([]byte{byte(r.Intn(256)), byte(r.Intn(256)), byte(at + r.Intn(4)), byte(count)})
		for ; count > 0; count-- {
			data := randomData(r, 3)
			size := r.Intn(4)
			text += string([]byte{byte(at), byte(size), byte(len(data))}) + data
			at += size + r.Intn(3)
		}
		if r.Intn(20) == 0 {
			text = text[:len(text)-1]
		}
		if _, ok := modelRead(sealed(text)); ok {
			images++
		}
		wantAsModel(t, sealed(text))
	}
	if images < 1000 {
		t.Errorf("%d images only", images)
	}
}

// P4: texts that keep every rule of an image but one.
func TestP4NoImage(t *testing.T) {
	for _, s := range []string{
		"TB\x01\x02\x05\x00",                             // no runs
		"TB\x01\x02\x05\x01\x05\x00\x00",                 // a run without addresses
		"TB\x01\x02\x05\x01\x04\x03\x03ab\x00",           // a nought at the end of the data
		"TB\x01\x02\x05\x01\x04\x03\x01\x00",             // nothing but a nought
		"TB\x01\x02\x05\x01\x04\x02\x03abc",              // more data than addresses
		"TB\x01\x02\x05\x02\x04\x01\x01a\x05\x01\x01b",   // two runs that touch
		"TB\x01\x02\x05\x02\x04\x02\x01a\x05\x02\x01b",   // two that overlap
		"TB\x01\x02\x05\x02\x05\x01\x01b\x03\x01\x01a",   // in falling order
		"TB\x01\x02\x07\x01\x04\x03\x02ab",               // the entry behind the run
		"TB\x01\x02\x03\x01\x04\x03\x02ab",               // and ahead of it
		"TB\x01\x02\x7f\x01\x7f\x02\x01a",                // over the end of the memory
		"TB\x01\x02\x80\x01\x80\x01\x01a",                // behind it
		"TB\x01\x02\x05\x02\x04\x03\x02ab",               // a run too few
		"TB\x01\x02\x05\x01\x04\x03\x02ab\x09\x01\x01c",  // a run too many
		"TB\x01\x02\x05\x01\x04\x03\x02abc",              // a byte behind the runs
		"TB\x01\x02\x05\x01\x04\x03\x03ab",               // a byte too few
		"TB\x01\x02\x05\x01\x04\x03\xffab",               // many bytes too few
		"TB\x01\x02\x05\xff\x04\x03\x02ab",               // many runs too few
		"BT\x01\x02\x05\x01\x04\x03\x02ab",               // another mark
		"TB\x00\x01\x00\x01\x00\x80\x6e" + xs(110),       // 121 bytes
		"TB\x00\x01\x00\x01\x00\x80\x80" + xs(128) + "x", // and more
	} {
		wantNoImage(t, sealed(s))
	}
	nine := "TB\x00\x01\x00\x09"
	for i := 0; i < 9; i++ {
		nine += string([]byte{byte(2 * i), 1, 1, 'x'})
	}
	wantNoImage(t, sealed(nine))
	for n := 0; n < len(example1); n++ {
		wantNoImage(t, example1[:n])
		wantNoImage(t, example1[n+1:])
		if n != len(example1)-2 {
			wantNoImage(t, sealed(example1[:n]))
		}
	}
}

// P4: the check is the remainder itself, not another number that leaves the same remainder.
func TestP4CheckIsLeast(t *testing.T) {
	found := 0
	for i := 0; i < 65536; i++ {
		image, e := twinboot.Pack(i/256, 0, []api.Segment{seg(0, 1, string([]byte{byte(i)}))})
		if e != api.OK {
			t.Fatalf("%d: %d", i, e)
		}
		n := len(image)
		h := 256*int(image[n-2]) + int(image[n-1])
		if h+65521 > 65535 {
			continue
		}
		found++
		wantNoImage(t, image[:n-2]+string([]byte{byte((h + 65521) >> 8), byte(h + 65521)}))
	}
	if found == 0 {
		t.Error("no image with a small check was found")
	}
}

// P5: all of the memory comes, whatever of it is covered.
func TestP5Ram(t *testing.T) {
	for _, segs := range [][]api.Segment{
		{seg(0, 1, "")}, {seg(127, 1, "z")}, {seg(0, 128, "\x00\x01\x00\x02")},
		{seg(0, 1, "a"), seg(127, 1, "z")}, {seg(19, 109, xs(109))},
		{seg(60, 4, "\xff\x00\xff"), seg(50, 10, "\x80"), seg(3, 1, "\x01")},
	} {
		image, e := twinboot.Pack(65535, segs[0].Addr, segs)
		want := api.Loaded{Version: 65535, Entry: segs[0].Addr, Ram: modelRam(segs)}
		if x, f := twinboot.Load(image); x != want || e != api.OK || f != api.OK || len(x.Ram) != 128 {
			t.Errorf("Load(%x) = %s, %d (Pack: %d), want %s", image, shown(x), f, e, shown(want))
		}
	}
	x, e := twinboot.Load("")
	if x != (api.Loaded{}) || e != api.ErrImage {
		t.Errorf("Load of nothing: %s, %d", shown(x), e)
	}
}
