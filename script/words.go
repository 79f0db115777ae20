package script

import (
	"strconv"
	"strings"

	"cursitor/api"
)

const (
	digits   = "0123456789abcdef"
	flags    = "atc" // the letters of Append, Txn and Control
	nothing  = "-"   // no bytes; no letters
	noneWord = "none"
)

// Hex: bytes in words: - of none. Bytes: of such a word; false: it is none.
func Hex(s string) string {
	if s == "" {
		return nothing
	}
	var out strings.Builder
	for i := range len(s) {
		out.WriteByte(digits[s[i]>>4])
		out.WriteByte(digits[s[i]&15])
	}
	return out.String()
}

func Bytes(w string) (string, bool) {
	if w == nothing {
		return "", true
	}
	if w == "" || len(w)%2 != 0 {
		return "", false
	}
	var out strings.Builder
	for i := 0; i < len(w); i += 2 {
		high := strings.IndexByte(digits, w[i])
		low := strings.IndexByte(digits, w[i+1])
		if high < 0 || low < 0 {
			return "", false
		}
		out.WriteByte(byte(high<<4 | low))
	}
	return out.String(), true
}

// blobWord: a Blob in a word. readBlob: of such a word; false: it is none.
func blobWord(b api.Blob) string {
	if b.Null {
		return noneWord
	}
	return Hex(b.Data)
}

func readBlob(w string) (api.Blob, bool) {
	if w == noneWord {
		return api.Blob{Null: true}, true
	}
	s, ok := Bytes(w)
	return api.Blob{Data: s}, ok
}

// numbers: in words. readNumbers: as many as there are to be, of such words; false: some are none.
func numbers(l []int) []string {
	var words []string
	for _, n := range l {
		words = append(words, strconv.Itoa(n))
	}
	return words
}

func readNumbers(l []int, words []string) bool {
	if len(words) != len(l) {
		return false
	}
	for i, w := range words {
		// Whatever is read of it: it is a number's word, if that has no other one.
		l[i], _ = strconv.Atoi(w)
		if strconv.Itoa(l[i]) != w {
			return false
		}
	}
	return true
}

// letters: those that are set, in a word. readLetters: of such a word; false: it is none.
func letters(set [len(flags)]bool) string {
	w := ""
	for i, yes := range set {
		if yes {
			w += flags[i : i+1]
		}
	}
	if w == "" {
		return nothing
	}
	return w
}

func readLetters(w string) (set [len(flags)]bool, ok bool) {
	for i := range set {
		set[i] = strings.Contains(w, flags[i:i+1])
	}
	return set, letters(set) == w
}
