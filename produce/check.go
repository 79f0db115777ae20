package produce

import (
	"math"

	"cursitor/api"
	"cursitor/batch"
	"cursitor/blob"
	"cursitor/key"
)

// Check: can there be such a request, in that version? Else why not.
func (r Request) Check(version int) api.Errno {
	if !blob.Right(r.ID) || !r.ID.Null && !key.Right(r.ID.Data) {
		return api.ErrLength
	}
	if r.Acks < -1 || r.Acks > 1 || r.Timeout < 0 || r.Timeout > math.MaxInt32 {
		return api.ErrRange
	}
	if e := checkTopics(r.Topics); e != api.OK {
		return e
	}
	return r.checkParts(version)
}

// checkTopics: are there topics, with parts, and do both rise?
func checkTopics(l []Topic) api.Errno {
	if len(l) == 0 {
		return api.ErrCount
	}
	ahead := ""
	for _, t := range l {
		if len(t.Parts) == 0 {
			return api.ErrCount
		}
		// A topic may be called as a transaction may; and no such name is as low as the empty one.
		if !key.Right(t.Name) || t.Name <= ahead || !partsRise(t.Parts) {
			return api.ErrOrder
		}
		ahead = t.Name
	}
	return api.OK
}

func partsRise(l []Part) bool {
	ahead := -1
	for _, p := range l {
		if p.Index <= ahead || p.Index > math.MaxInt32 {
			return false
		}
		ahead = p.Index
	}
	return true
}

// checkParts: what is in the parts of all topics.
func (r Request) checkParts(version int) api.Errno {
	for _, t := range r.Topics {
		for _, p := range t.Parts {
			if len(p.Batches) == 0 || version == 3 && len(p.Batches) > 1 {
				return api.ErrCount
			}
			if e := checkBatches(p.Batches, !r.ID.Null); e != api.OK {
				return e
			}
		}
	}
	return api.OK
}

// checkBatches: may all batches be, and be written, of a transaction or of none?
func checkBatches(l []api.Batch, txn bool) api.Errno {
	for _, b := range l {
		if e := batch.Check(b); e != api.OK {
			return e
		}
		if b.Control {
			return api.ErrKind
		}
		if b.Txn != txn {
			return api.ErrAttr
		}
	}
	return api.OK
}
