package index

import (
	"slices"

	"surcingle/api"
)

// part is entries side by side: a chunk of them, or two parts, whose heights differ by one at most, so that the way down to each entry is short.
// It is never changed, so that many indexes may have it. The zero part is a chunk of no entries.
type part struct {
	chunk       []api.Entry
	left, right *part
	height      int
	count       int
	shown       int
	// No entry's key is below low, or above high: most parts that haven't an Id needn't be gone through.
	low, high uint64
}

// key tells an Id as one number, that is no other Id's.
func key(a api.Id) uint64 { return uint64(a.Client)<<32 | uint64(a.Clock) }

// chunkOf makes entries, at most a chunk, a part. It keeps them.
func chunkOf(l []api.Entry) *part {
	p := &part{chunk: l, count: len(l)}
	for i, e := range l {
		if !e.Gone {
			p.shown++
		}
		if i == 0 {
			p.low, p.high = key(e.Id), key(e.Id)
		}
		p.low, p.high = min(p.low, key(e.Id)), max(p.high, key(e.Id))
	}
	return p
}

// partOf makes copies of entries a part.
func partOf(l []api.Entry) *part {
	if len(l) <= api.Chunk {
		return chunkOf(slices.Clone(l))
	}
	half := len(l) / 2
	return join(partOf(l[:half]), partOf(l[half:]))
}

// join makes two parts, neither of them empty, whose heights differ by one at most, one.
func join(a, b *part) *part {
	return &part{
		left:   a,
		right:  b,
		height: max(a.height, b.height) + 1,
		count:  a.count + b.count,
		shown:  a.shown + b.shown,
		low:    min(a.low, b.low),
		high:   max(a.high, b.high),
	}
}

// balance makes two parts one, of which one may be higher by two, as it got an entry more.
func balance(a, b *part) *part {
	if a.height > b.height+1 {
		return leanRight(a, b)
	}
	if b.height > a.height+1 {
		return leanLeft(a, b)
	}
	return join(a, b)
}

// leanRight makes two parts one, the left one of which is higher by two.
func leanRight(a, b *part) *part {
	if a.left.height >= a.right.height {
		return join(a.left, join(a.right, b))
	}
	return join(join(a.left, a.right.left), join(a.right.right, b))
}

// leanLeft makes two parts one, the right one of which is higher by two.
func leanLeft(a, b *part) *part {
	if b.right.height >= b.left.height {
		return join(join(a, b.left), b.right)
	}
	return join(join(a, b.left.left), join(b.left.right, b.right))
}

// isChunk tells whether a part is a chunk.
func (p *part) isChunk() bool { return p.left == nil }

// addTo puts the entries behind others.
func (p *part) addTo(l []api.Entry) []api.Entry {
	if p.isChunk() {
		return append(l, p.chunk...)
	}
	return p.right.addTo(p.left.addTo(l))
}

// put tells a part with e as its at-th entry.
func (p *part) put(at int, e api.Entry) *part {
	if p.isChunk() {
		return partOf(slices.Concat(p.chunk[:at], []api.Entry{e}, p.chunk[at:]))
	}
	if at <= p.left.count {
		return balance(p.left.put(at, e), p.right)
	}
	return balance(p.left, p.right.put(at-p.left.count, e))
}

// hide tells a part in which the at-th entry is Gone.
func (p *part) hide(at int) *part {
	if p.isChunk() {
		l := slices.Clone(p.chunk)
		l[at].Gone = true
		return chunkOf(l)
	}
	if at < p.left.count {
		return join(p.left.hide(at), p.right)
	}
	return join(p.left, p.right.hide(at-p.left.count))
}

// find tells where an Id's entry is.
func (p *part) find(a api.Id) (int, bool) {
	if key(a) < p.low || key(a) > p.high {
		return 0, false
	}
	if p.isChunk() {
		return findIn(p.chunk, a)
	}
	if at, has := p.left.find(a); has {
		return at, true
	}
	if at, has := p.right.find(a); has {
		return p.left.count + at, true
	}
	return 0, false
}

// findIn tells where an Id's entry is among some.
func findIn(l []api.Entry, a api.Id) (int, bool) {
	for i, e := range l {
		if e.Id == a {
			return i, true
		}
	}
	return 0, false
}

// at tells where the k-th entry is that isn't Gone; there is one.
func (p *part) at(k int) int {
	if p.isChunk() {
		return atIn(p.chunk, k)
	}
	if k < p.left.shown {
		return p.left.at(k)
	}
	return p.left.count + p.right.at(k-p.left.shown)
}

// atIn tells where the k-th entry is, among some, that isn't Gone; there is one.
func atIn(l []api.Entry, k int) int {
	at := 0
	for l[at].Gone || k > 0 {
		if !l[at].Gone {
			k--
		}
		at++
	}
	return at
}

// entry tells the at-th entry; there is one.
func (p *part) entry(at int) api.Entry {
	for !p.isChunk() {
		if at < p.left.count {
			p = p.left
		} else {
			p, at = p.right, at-p.left.count
		}
	}
	return p.chunk[at]
}
