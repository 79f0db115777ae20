// Package input reads bytes from the front on, and never beyond their end.
package input

import "cursitor/api"

// Input is bytes that are read; once something went wrong nothing more is.
type Input struct {
	s   string
	at  int
	err api.Errno
}

// New: of some bytes.
func New(s string) *Input { return &Input{s: s} }

// Fail: something went wrong, unless something did ahead of it.
func (in *Input) Fail(e api.Errno) {
	if in.err == api.OK {
		in.err = e
	}
}

// Take: so many bytes; none, if there aren't as many.
func (in *Input) Take(n int) string {
	if n < 0 {
		in.Fail(api.ErrLength)
	} else if n > in.Left() {
		in.Fail(api.ErrShort)
	}
	if in.err != api.OK {
		return ""
	}
	from := in.at
	in.at += n
	return in.s[from:in.at]
}

// Int: a number of so many bytes, one to eight, the highest first, below 0 if the highest bit is set.
func (in *Input) Int(size int) int {
	if size < 1 || size > 8 {
		in.Fail(api.ErrLength)
		return 0
	}
	s := in.Take(size)
	if s == "" {
		return 0
	}
	n := int(int8(s[0])) // the first byte alone has the sign
	for _, c := range []byte(s[1:]) {
		n = n<<8 | int(c)
	}
	return n
}

// Count: a number of so many bytes, of things each of which has at least so many bytes; not below 0, nor more than there can be.
func (in *Input) Count(size, each int) int {
	n := in.Int(size)
	if n < 0 {
		in.Fail(api.ErrLength)
		return 0
	}
	// Divided, since n times each may be beyond all numbers.
	if each > 0 && n > in.Left()/each {
		in.Fail(api.ErrShort)
		return 0
	}
	return n
}

// Left: how many bytes weren't read. At: how many were.
func (in *Input) Left() int { return len(in.s) - in.at }

func (in *Input) At() int { return in.at }

// Err: what went wrong first.
func (in *Input) Err() api.Errno { return in.err }

// Close: what went wrong first; that there is more, if nothing did, and there is.
func (in *Input) Close() api.Errno {
	if in.Left() > 0 {
		in.Fail(api.ErrLong)
	}
	return in.err
}
