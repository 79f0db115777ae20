package batch

import (
	"math"

	"cursitor/api"
	"cursitor/control"
	"cursitor/record"
)

const (
	unsaid   = -1 // stands for what isn't told
	maxEpoch = math.MaxInt16
	maxLast  = math.MaxInt32
)

// Check: can there be such a batch? Else why not.
func Check(b api.Batch) api.Errno {
	if !placed(b) {
		return api.ErrRange
	}
	if b.Control && !b.Txn {
		return api.ErrAttr
	}
	if !signed(b) {
		return api.ErrRange
	}
	if b.Control && len(b.Records) != 1 {
		return api.ErrCount
	}
	for _, r := range b.Records {
		if e := record.Right(r); e != api.OK {
			return e
		}
	}
	if b.Control {
		if _, _, e := control.Read(b.Records[0]); e != api.OK {
			return e
		}
	}
	return checkRows(b)
}

// placed: are its offsets and times, and who led, such as there can be?
func placed(b api.Batch) bool {
	return b.Base >= 0 && within(b.Leader, unsaid, math.MaxInt32) && within(b.Last, 0, maxLast) &&
		b.Base <= math.MaxInt-b.Last && b.First >= 0 && b.Max >= 0
}

// signed: can somebody have written it, or nobody who tells?
func signed(b api.Batch) bool {
	if b.Producer == unsaid {
		return b.Epoch == unsaid && b.Sequence == unsaid && !b.Txn
	}
	if b.Producer < 0 || !within(b.Epoch, 0, maxEpoch) {
		return false
	}
	if b.Control {
		return b.Sequence == unsaid
	}
	return within(b.Sequence, 0, math.MaxInt32)
}

// checkRows: do the offsets of its records rise, and are their times such as there can be, and Max the greatest one, unless that was set later?
func checkRows(b api.Batch) api.Errno {
	ahead, greatest := -1, b.First
	for _, r := range b.Records {
		if r.Offset <= ahead || r.Offset > b.Last {
			return api.ErrOrder
		}
		// First isn't below 0, so neither bound is beyond all numbers.
		if !within(r.Time, -b.First, math.MaxInt-b.First) {
			return api.ErrRange
		}
		ahead, greatest = r.Offset, max(greatest, b.First+r.Time)
	}
	if !b.Append && b.Max != greatest {
		return api.ErrRange
	}
	return api.OK
}

func within(n, least, most int) bool { return n >= least && n <= most }
