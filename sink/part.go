package sink

import (
	"sort"

	"leat/api"
)

// transaction: its records are never written again, so a part and the log may share them.
type transaction struct {
	n    uint64
	recs []api.Record
}

// part: its transactions, both lists rising by numbers, the staged ones above the committed ones.
type part struct {
	committed []transaction // those with records
	staged    []transaction
	last      uint64 // the greatest committed one, with records or not
}

// greatest: the greatest number that is staged or committed; 0: none.
func (p part) greatest() uint64 {
	if len(p.staged) == 0 {
		return p.last
	}
	return p.staged[len(p.staged)-1].n
}

// upTo: the first ones of a rising list, those whose numbers aren't above n.
func upTo(l []transaction, n uint64) []transaction {
	return l[:sort.Search(len(l), func(i int) bool { return l[i].n > n })]
}

// without: what is left of a list when the rest of it is gone. The records that are gone aren't held by it any more; nor is its room, where that is cheap: when no more is left to copy than is gone.
func without(left, gone []transaction) []transaction {
	if len(left) <= len(gone) {
		return copied(left)
	}
	clear(gone)
	return left
}

// copied: a list in memory of its own; an empty one holds none at all.
func copied[T any](l []T) []T { return append([]T(nil), l...) }
