package value

import (
	"cmp"
	"math"
	"slices"

	"cursitor/api"
	"cursitor/blob"
	"cursitor/input"
	"cursitor/output"
)

// How many bytes there are at least: of a topic without partitions and with an empty name, and of a partition's number.
const (
	leastTopic = 6
	leastPart  = 4
)

// rise: is each above the one ahead of it?
func rise[T cmp.Ordered](l []T) bool {
	for i := 1; i < len(l); i++ {
		if l[i] <= l[i-1] {
			return false
		}
	}
	return true
}

// topicsRise: do topics rise, and the partitions of each?
func topicsRise(l []api.Topic) bool {
	var names []string
	for _, t := range l {
		if t.Name == "" || len(t.Name) > math.MaxInt16 || !partsRise(t.Parts) {
			return false
		}
		names = append(names, t.Name)
	}
	return rise(names)
}

// partsRise: are there some numbers of partitions, such as there can be, and do they rise?
func partsRise(l []int) bool {
	// Of numbers that rise the first and the last one say it of all.
	return len(l) > 0 && l[0] >= 0 && l[len(l)-1] <= math.MaxInt32 && rise(l)
}

// PutTopics: how many topics there are, and all of them, with their partitions. Topics: likewise, read.
func PutTopics(out *output.Output, l []api.Topic) {
	out.Int(len(l), 4)
	for _, t := range l {
		blob.PutText(out, t.Name)
		out.Int(len(t.Parts), 4)
		for _, p := range t.Parts {
			out.Int(p, 4)
		}
	}
}

func Topics(in *input.Input) []api.Topic {
	var l []api.Topic
	for range in.Count(4, leastTopic) {
		name := blob.Text(in)
		l = append(l, api.Topic{Name: name, Parts: parts(in)})
		if in.Err() != api.OK {
			return nil
		}
	}
	return l
}

// parts: how many numbers of partitions there are, and all of them.
func parts(in *input.Input) []int {
	var l []int
	for range in.Count(4, leastPart) {
		l = append(l, in.Int(4))
	}
	return l
}

// SameTopics: are two rows of topics one?
func SameTopics(a, b []api.Topic) bool {
	return slices.EqualFunc(a, b, func(x, y api.Topic) bool {
		return x.Name == y.Name && slices.Equal(x.Parts, y.Parts)
	})
}
