package oplog

import (
	"counterpane/api"
	"counterpane/dot"
)

// Box has what was had, and letters that wait. A zero one has neither.
type Box struct {
	had     dot.Seen
	waiting map[api.Id]Letter
}

// NewBox tells a box in which nothing is had, and nothing waits.
func NewBox() *Box {
	return &Box{}
}

// Put puts a letter in, and tells those that are handed on by it.
func (b *Box) Put(l Letter) ([]Letter, api.Errno) {
	if b == nil {
		return nil, api.ErrArg
	}
	if !rightLetter(l) {
		return nil, api.ErrForm
	}
	_, waits := b.waiting[l.Deed.Id]
	switch {
	case b.isLate(l) || waits:
		return nil, api.OK
	case len(b.waiting) >= api.MaxOps:
		return nil, api.ErrFull
	}
	if b.waiting == nil {
		b.waiting = map[api.Id]Letter{}
	}
	b.waiting[l.Deed.Id] = Clone(l)
	if !b.mayGo(l) { // None of the others could be handed on, and nothing is new for them.
		return nil, api.OK
	}
	var out []Letter
	for next, ok := b.next(); ok; next, ok = b.next() {
		out = append(out, next)
		delete(b.waiting, next.Deed.Id)
		b.had.Add(next.Deed.Id)
		b.dropLate(next.Deed.Id.Author)
	}
	return out, api.OK
}

func (b *Box) isLate(l Letter) bool {
	return b.had.Has(l.Deed.Id)
}

// mayGo tells whether a letter may be handed on.
func (b *Box) mayGo(l Letter) bool {
	own := api.Id{Author: l.Deed.Id.Author, N: 1}
	for _, id := range l.Seen {
		if !b.had.Has(id) {
			return false
		}
		if id.Author == own.Author {
			own.N = id.N + 1
		}
	}
	return !b.had.Has(own)
}

// next tells the first one of those that wait and may be handed on.
func (b *Box) next() (best Letter, found bool) {
	for id, l := range b.waiting {
		if (!found || dot.Before(id, best.Deed.Id)) && b.mayGo(l) {
			best, found = l, true
		}
	}
	return best, found
}

// dropLate takes the author's letters away that are late now.
func (b *Box) dropLate(author int) {
	for id := range b.waiting {
		if id.Author == author && b.had.Has(id) {
			delete(b.waiting, id)
		}
	}
}

// Waiting tells how many letters wait.
func (b *Box) Waiting() int {
	if b == nil {
		return 0
	}
	return len(b.waiting)
}

// Seen tells what was had.
func (b *Box) Seen() *dot.Seen {
	out := dot.New()
	if b == nil {
		return out
	}
	for author, n := range b.had.All() {
		out.Add(api.Id{Author: author, N: n})
	}
	return out
}
