// Package output writes bytes, one behind the other.
package output

import "cursitor/api"

// Output is bytes that were written; once something doesn't fit nothing more is.
type Output struct {
	bytes []byte
	err   api.Errno
}

// Fail: something went wrong, unless something did ahead of it.
func (out *Output) Fail(e api.Errno) {
	if out.err == api.OK {
		out.err = e
	}
}

// Put: bytes.
func (out *Output) Put(s string) {
	if out.err == api.OK {
		out.bytes = append(out.bytes, s...)
	}
}

// Byte: one byte.
func (out *Output) Byte(c byte) {
	if out.err == api.OK {
		out.bytes = append(out.bytes, c)
	}
}

// Fits: does a number fit so many bytes, as two's complement?
func Fits(n, size int) bool {
	if size < 1 || size > 8 {
		return false
	}
	// What is shifted out of the highest bit is lost, unless it was but signs.
	beyond := 64 - 8*size
	return n<<beyond>>beyond == n
}

// Int: a number of so many bytes, the highest first.
func (out *Output) Int(n, size int) {
	if !Fits(n, size) {
		out.Fail(api.ErrRange)
		return
	}
	for i := range size {
		out.Byte(byte(n >> (8 * (size - 1 - i))))
	}
}

// Len: how many bytes there are. Err: what went wrong first.
func (out *Output) Len() int { return len(out.bytes) }

func (out *Output) Err() api.Errno { return out.err }

// Text: all bytes; none, and what went wrong first, if something did.
func (out *Output) Text() (string, api.Errno) {
	if out.err != api.OK {
		return "", out.err
	}
	return string(out.bytes), api.OK
}
