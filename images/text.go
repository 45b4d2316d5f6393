package images

import "twinboot/api"

const (
	headBytes  = 6 // TB, the version, the entry, how many runs
	runBytes   = 3 // ahead of the data of a run
	checkBytes = 2
)

// content: what an image tells.
type content struct {
	version, entry int
	runs           []api.Segment
}

// encode writes the content as the text of an image, the check with it.
func encode(c content) string {
	head := []byte{'T', 'B', byte(c.version / 256), byte(c.version % 256), byte(c.entry), byte(len(c.runs))}
	text := string(head)
	for i := 0; i < len(c.runs); i++ {
		text = text + encodeRun(c.runs[i])
	}
	h := check(text)
	tail := []byte{byte(h / 256), byte(h % 256)}
	return text + string(tail)
}

// encodeRun writes a run as it stands in an image.
func encodeRun(run api.Segment) string {
	head := []byte{byte(run.Addr), byte(run.Size), byte(len(run.Data))}
	return string(head) + run.Data
}

// check: the check of an image whose bytes ahead of it are these.
func check(text string) int {
	h := 1
	for i := 0; i < len(text); i++ {
		h = (31*h + int(text[i])) % 65521
	}
	return h
}

// decode reads the fields of a text where an image would have them; false, if it has too few bytes for them or more than an image may have. Whether it is an image is not asked here.
func decode(text string) (content, bool) {
	if len(text) < headBytes+checkBytes || len(text) > api.MaxImage {
		return content{}, false
	}
	runs, ok := decodeRuns(text[headBytes:len(text)-checkBytes], int(text[5]))
	if !ok {
		return content{}, false
	}
	return content{version: 256*int(text[2]) + int(text[3]), entry: int(text[4]), runs: runs}, true
}

// decodeRuns reads so many runs, one behind the other; false, if the text ends within them.
func decodeRuns(text string, count int) ([]api.Segment, bool) {
	var runs []api.Segment
	at := 0
	for i := 0; i < count; i++ {
		data := at + runBytes
		if data > len(text) {
			return nil, false
		}
		end := data + int(text[at+2])
		if end > len(text) {
			return nil, false
		}
		runs = append(runs, api.Segment{Addr: int(text[at]), Size: int(text[at+1]), Data: text[data:end]})
		at = end
	}
	return runs, true
}
