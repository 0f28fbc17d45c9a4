package share

import (
	"slices"

	"counterpane/api"
	"counterpane/axis"
	"counterpane/dot"
	"counterpane/oplog"
	"counterpane/reg"
	"counterpane/seqc"
)

// history is letters in their order, and which of their deeds are gone.
type history struct {
	letters []oplog.Letter
	gone    map[api.Id]bool
}

func (w *Writer) history() *history {
	h := &history{letters: slices.Clone(w.letters), gone: map[api.Id]bool{}}
	slices.SortFunc(h.letters, func(a, b oplog.Letter) int {
		if dot.Before(a.Deed.Id, b.Deed.Id) {
			return -1
		}
		return 1
	})
	// Whether a deed is gone hangs on those behind it alone.
	for _, l := range slices.Backward(h.letters) {
		d := l.Deed
		if d.Kind == api.TakeBack && !h.gone[d.Id] && d.At.Author == d.Id.Author && d.At.N < d.Id.N {
			h.gone[d.At] = true
		}
	}
	return h
}

func (h *history) isGone(deed api.Id) bool {
	return h.gone[deed]
}

// axis tells the axis that comes of first ones, by deeds of these kinds.
func (h *history) axis(first *axis.Axis, insert, remove int) *axis.Axis {
	var ids []api.Id
	for id := range first.All() {
		ids = append(ids, id)
	}
	q := seqc.New(ids...)
	for _, l := range h.letters {
		switch l.Deed.Kind {
		case insert:
			q.Insert(l.Deed.At, l.Deed.Id)
		case remove:
			q.Delete(l.Deed.At, l.Deed.Id)
		}
	}
	return q.Axis(h.isGone)
}

func (h *history) byCell() map[api.Cell]*reg.Reg {
	return registers(h, api.SetCell, func(d api.Deed) api.Cell { return d.Cell })
}

// registers tells a register of the deeds of a kind for each key that they have.
func registers[K comparable](h *history, kind int, key func(d api.Deed) K) map[K]*reg.Reg {
	out, came := map[K]*reg.Reg{}, map[K][]api.Id{}
	for _, l := range h.letters {
		if l.Deed.Kind != kind {
			continue
		}
		k := key(l.Deed)
		if out[k] == nil {
			out[k] = reg.New()
		}
		w := reg.Write{Id: l.Deed.Id, Content: l.Deed.Content, Over: make([]api.Id, 0, len(came[k]))}
		for _, id := range came[k] {
			if covers(l.Seen, id) {
				w.Over = append(w.Over, id)
			}
		}
		out[k].Put(w)
		came[k] = append(came[k], w.Id)
	}
	return out
}

// covers tells whether what was seen, by rising authors, has an id.
func covers(seen []api.Id, id api.Id) bool {
	i, found := slices.BinarySearchFunc(seen, id.Author, func(x api.Id, author int) int { return x.Author - author })
	return found && id.N <= seen[i].N
}
