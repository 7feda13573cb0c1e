// Package ids is layer 1: see shared/doc/01-ids.md.
package ids

import (
	"cmp"

	"surcingle/api"
)

// Cmp tells how two Ids stand, by Client, then by Clock: P1.1.
func Cmp(a, b api.Id) int {
	if a.Client != b.Client {
		return cmp.Compare(a.Client, b.Client)
	}
	return cmp.Compare(a.Clock, b.Clock)
}

// None tells whether an Id is nothing's: P1.1.
func None(a api.Id) bool { return a.Client == 0 }

// After tells the Id n clocks on: P1.1.
func After(a api.Id, n int, limit uint32) (api.Id, error) {
	if None(a) || n < 0 {
		return api.Id{}, api.ErrArg
	}
	// 64 bits without a sign hold the sum of any Clock and any n, so that none wraps round below limit.
	clock := uint64(a.Clock) + uint64(n)
	if clock > uint64(limit) {
		return api.Id{}, api.ErrClock
	}
	return api.Id{Client: a.Client, Clock: uint32(clock)}, nil
}
