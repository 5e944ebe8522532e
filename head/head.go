// Package head is layer 1: an object's first word, as shared/doc/01-head.md says.
package head

import "ragpicker/api"

// The parts of a word that are one bit.
const (
	used = 1 << iota
	old
	done
)

// Where the parts of a word that are numbers begin. Each part reaches up to the next one, further than its greatest number needs, so that a bit between two parts makes a number that may not be.
const (
	fieldsAt = 3
	bornAt   = 10
	markAt   = 32

	fieldsMask = 1<<(bornAt-fieldsAt) - 1
	bornMask   = 1<<(markAt-bornAt) - 1
)

// May tells whether a head may be.
func May(h api.Head) bool {
	if !h.Used {
		return h == api.Head{}
	}
	return upTo(h.N, api.MaxFields) && upTo(h.Born, api.MaxEpoch) && upTo(h.Mark, api.MaxEpoch)
}

// Pack is a head's word.
func Pack(h api.Head) (int, api.Errno) {
	if !May(h) {
		return 0, api.ErrArg
	}
	bits := bit(h.Used, used) | bit(h.Old, old) | bit(h.Done, done)
	return bits | h.N<<fieldsAt | h.Born<<bornAt | h.Mark<<markAt, api.OK
}

// Unpack is the head of a word, if it is one's.
func Unpack(w int) (api.Head, bool) {
	h := api.Head{
		Used: w&used != 0,
		Old:  w&old != 0,
		Done: w&done != 0,
		N:    w >> fieldsAt & fieldsMask,
		Born: w >> bornAt & bornMask,
		Mark: w >> markAt, // no mask: a word below 0 has a mark below 0, which may not be
	}
	if !May(h) {
		return api.Head{}, false
	}
	return h, true
}

func upTo(n, most int) bool { return 0 <= n && n <= most }

func bit(is bool, part int) int {
	if is {
		return part
	}
	return 0
}
