package twinboot_test

import (
	"math/rand"
	"sort"

	"twinboot/api"
)

func seg(addr int, size int, data string) api.Segment {
	return api.Segment{Addr: addr, Size: size, Data: data}
}

// sealed: bytes with their check behind them.
func sealed(s string) string {
	h := 1
	for i := 0; i < len(s); i++ {
		h = (31*h + int(s[i])) % 65521
	}
	return s + string([]byte{byte(h >> 8), byte(h)})
}

// modelPack answers as P3 says, by other means than the program: by a map from address to byte.
func modelPack(version int, entry int, segs []api.Segment) (string, api.Errno) {
	if version < 0 || version > 65535 {
		return "", api.ErrVersion
	}
	if len(segs) == 0 || len(segs) > 8 {
		return "", api.ErrSegment
	}
	for _, s := range segs {
		if s.Addr < 0 || s.Addr > 127 || s.Size < 1 || s.Size > 128 || s.Addr+s.Size > 128 || len(s.Data) > s.Size {
			return "", api.ErrSegment
		}
	}
	laid := map[int]byte{}
	total := 0
	for _, s := range segs {
		total += s.Size
		for i, b := range []byte(s.Data + string(make([]byte, s.Size-len(s.Data)))) {
			laid[s.Addr+i] = b
		}
	}
	if len(laid) != total {
		return "", api.ErrOverlap
	}
	if _, ok := laid[entry]; !ok {
		return "", api.ErrEntry
	}
	text := modelText(version, entry, laid)
	if len(text) > 120 {
		return "", api.ErrBig
	}
	return text, api.OK
}

// modelText writes an image, backwards from the last run.
func modelText(version int, entry int, laid map[int]byte) string {
	var addrs []int
	for a := range laid {
		addrs = append(addrs, a)
	}
	sort.Ints(addrs)
	body := ""
	runs := 0
	for len(addrs) > 0 {
		last := len(addrs) - 1
		first := last
		for first > 0 && addrs[first-1] == addrs[first]-1 {
			first--
		}
		data := ""
		for _, a := range addrs[first:] {
			data += string([]byte{laid[a]})
		}
		for data != "" && data[len(data)-1] == 0 {
			data = data[:len(data)-1]
		}
		body = string([]byte{byte(addrs[first]), byte(len(addrs) - first), byte(len(data))}) + data + body
		addrs = addrs[:first]
		runs++
	}
	return sealed("TB" + string([]byte{byte(version >> 8), byte(version), byte(entry), byte(runs)}) + body)
}

// modelRead answers as P4 says, rule by rule: the runs, and whether the text is an image.
func modelRead(s string) ([]api.Segment, bool) {
	if len(s) < 8 || len(s) > 120 || s[:2] != "TB" || sealed(s[:len(s)-2]) != s {
		return nil, false
	}
	entry, count, rest := int(s[4]), int(s[5]), s[6:len(s)-2]
	if count < 1 || count > 8 {
		return nil, false
	}
	var runs []api.Segment
	free, hasEntry := 0, false
	for ; count > 0; count-- {
		if len(rest) < 3 || len(rest)-3 < int(rest[2]) {
			return nil, false
		}
		r := seg(int(rest[0]), int(rest[1]), rest[3:3+int(rest[2])])
		rest = rest[3+len(r.Data):]
		if r.Addr < free || r.Size < 1 || r.Addr+r.Size > 128 || len(r.Data) > r.Size {
			return nil, false
		}
		if n := len(r.Data); n > 0 && r.Data[n-1] == 0 {
			return nil, false
		}
		if entry >= r.Addr && entry < r.Addr+r.Size {
			hasEntry = true
		}
		runs = append(runs, r)
		free = r.Addr + r.Size + 1
	}
	return runs, hasEntry && rest == ""
}

// modelRam: the memory with these runs in it.
func modelRam(runs []api.Segment) string {
	ram := make([]byte, 128)
	for _, r := range runs {
		copy(ram[r.Addr:], r.Data)
	}
	return string(ram)
}

func same(a []api.Segment, b []api.Segment) bool {
	if len(a) != len(b) {
		return false
	}
	for i := range a {
		if a[i] != b[i] {
			return false
		}
	}
	return true
}

// randomData: up to n bytes, noughts often among them.
func randomData(r *rand.Rand, n int) string {
	data := make([]byte, r.Intn(n+1))
	for i := range data {
		if r.Intn(2) == 0 {
			data[i] = byte(r.Intn(256))
		}
	}
	return string(data)
}

// randomSegments: some that do not overlap, often touch, and lie in no order.
func randomSegments(r *rand.Rand) []api.Segment {
	var segs []api.Segment
	at := r.Intn(4)
	most := 1 + r.Intn(40)
	for n := 1 + r.Intn(8); n > 0 && at < 128; n-- {
		size := 1 + r.Intn(most)
		if size > 128-at {
			size = 128 - at
		}
		segs = append(segs, seg(at, size, randomData(r, size)))
		at += size + r.Intn(3)
	}
	r.Shuffle(len(segs), func(i int, j int) { segs[i], segs[j] = segs[j], segs[i] })
	return segs
}
