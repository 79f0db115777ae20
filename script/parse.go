package script

import (
	"strings"

	"cursitor/api"
)

// reader is what was read of a Script, line by line; what may come next hangs on that alone.
type reader struct {
	Script
}

// Parse: the script of a text; or the first line that doesn't belong there, from 1 on.
func Parse(text string) (Script, int) {
	r := reader{Script{Cut: whole}}
	for n := 1; text != ""; n++ {
		line, rest, ended := strings.Cut(text, "\n")
		if !ended || !r.read(strings.Split(line, " ")) {
			return Script{}, n
		}
		text = rest
	}
	return r.Script, 0
}

// read: a line of some words; false: it doesn't belong there.
func (r *reader) read(words []string) bool {
	word, rest := words[0], words[1:]
	switch {
	case len(r.Chunks) > 0: // that is the last line
		return false
	case word == chunksWord:
		return r.readChunks(rest)
	case r.Cut != whole: // only chunks come behind it
		return false
	case word == cutWord:
		return r.readCut(rest)
	case word == batchWord:
		return r.readBatch(rest)
	case word == recordWord:
		return r.readRecord(rest)
	case word == headerWord:
		return r.readHeader(rest)
	}
	return false
}

func (r *reader) readChunks(words []string) bool {
	r.Chunks = make([]int, len(words))
	return len(words) > 0 && readNumbers(r.Chunks, words)
}

func (r *reader) readCut(words []string) bool {
	var n [1]int
	if !readNumbers(n[:], words) || n[0] < 0 {
		return false
	}
	r.Cut = n[0]
	return true
}

func (r *reader) readBatch(words []string) bool {
	var n [8]int
	if len(words) != len(n)+1 || !readNumbers(n[:], words[:len(n)]) {
		return false
	}
	set, ok := readLetters(words[len(n)])
	r.Batches = append(r.Batches, api.Batch{
		Base: n[0], Leader: n[1], Last: n[2], First: n[3], Max: n[4], Producer: n[5], Epoch: n[6], Sequence: n[7],
		Append: set[0], Txn: set[1], Control: set[2],
	})
	return ok
}

// readRecord: one of the batch that was read last.
func (r *reader) readRecord(words []string) bool {
	var n [2]int
	if len(r.Batches) == 0 || len(words) != len(n)+2 || !readNumbers(n[:], words[:len(n)]) {
		return false
	}
	key, isKey := readBlob(words[2])
	value, isValue := readBlob(words[3])
	b := &r.Batches[len(r.Batches)-1]
	b.Records = append(b.Records, api.Record{Time: n[0], Offset: n[1], Key: key, Value: value})
	return isKey && isValue
}

// readHeader: one of the record that was read last, if no other batch was read behind it.
func (r *reader) readHeader(words []string) bool {
	if len(r.Batches) == 0 || len(words) != 2 {
		return false
	}
	l := r.Batches[len(r.Batches)-1].Records
	if len(l) == 0 {
		return false
	}
	key, isKey := Bytes(words[0])
	value, isValue := readBlob(words[1])
	last := &l[len(l)-1]
	last.Headers = append(last.Headers, api.Header{Key: key, Value: value})
	return isKey && isValue
}
