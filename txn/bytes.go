package txn

import (
	"cursitor/api"
	"cursitor/blob"
	"cursitor/input"
	"cursitor/output"
	"cursitor/value"
)

// checker is a request that tells whether it may be.
type checker interface {
	Check() api.Errno
}

// versioned is a Begin of a version: so it can tell, too.
type versioned struct {
	begin   Begin
	version int
}

func (v versioned) Check() api.Errno { return v.begin.Check(v.version) }

// may: is a request's check OK? Else its error goes wrong.
func may(out *output.Output, check func() api.Errno) bool {
	e := check()
	if e != api.OK {
		out.Fail(e)
	}
	return e == api.OK
}

// whole: was a request read without anything that went wrong, and is its check OK? Else its error goes wrong.
func whole(in *input.Input, c checker) bool {
	if in.Err() != api.OK {
		return false
	}
	e := c.Check()
	if e != api.OK {
		in.Fail(e)
	}
	return e == api.OK
}

// Write: its bytes.
func (b Begin) Write(out *output.Output, version int) {
	if !may(out, func() api.Errno { return b.Check(version) }) {
		return
	}
	blob.PutFixed(out, b.ID, 2)
	out.Int(b.Timeout, 4)
	if version == 1 {
		putWriter(out, b.Producer, b.Epoch)
	}
}

func (a Add) Write(out *output.Output) {
	if !may(out, a.Check) {
		return
	}
	blob.PutText(out, a.ID)
	putWriter(out, a.Producer, a.Epoch)
	value.PutTopics(out, a.Topics)
}

func (e End) Write(out *output.Output) {
	if !may(out, e.Check) {
		return
	}
	blob.PutText(out, e.ID)
	putWriter(out, e.Producer, e.Epoch)
	PutBool(out, e.Commit)
}

func putWriter(out *output.Output, producer, epoch int) {
	out.Int(producer, 8)
	out.Int(epoch, 2)
}

func readWriter(in *input.Input) (producer, epoch int) {
	producer = in.Int(8)
	epoch = in.Int(2)
	return producer, epoch
}

// PutBool, Bool: one byte, 1 or 0.
func PutBool(out *output.Output, yes bool) {
	if yes {
		out.Byte(1)
	} else {
		out.Byte(0)
	}
}

func Bool(in *input.Input) bool {
	n := in.Int(1)
	if n != 0 && n != 1 {
		in.Fail(api.ErrRange)
	}
	return n == 1
}

// ReadBegin, ReadAdd, ReadEnd: such requests.
func ReadBegin(in *input.Input, version int) Begin {
	b := Begin{Producer: nobody, Epoch: nobody}
	b.ID = blob.Fixed(in, 2)
	b.Timeout = in.Int(4)
	if version == 1 {
		b.Producer, b.Epoch = readWriter(in)
	}
	if !whole(in, versioned{b, version}) {
		return Begin{}
	}
	return b
}

func ReadAdd(in *input.Input) Add {
	var a Add
	a.ID = blob.Text(in)
	a.Producer, a.Epoch = readWriter(in)
	a.Topics = value.Topics(in)
	if !whole(in, a) {
		return Add{}
	}
	return a
}

func ReadEnd(in *input.Input) End {
	var e End
	e.ID = blob.Text(in)
	e.Producer, e.Epoch = readWriter(in)
	e.Commit = Bool(in)
	if !whole(in, e) {
		return End{}
	}
	return e
}
