package share

import (
	"math"
	"math/rand"
	"slices"
	"strconv"
	"strings"
	"testing"

	"counterpane/api"
	"counterpane/cells"
	"counterpane/dot"
	"counterpane/oplog"
	"counterpane/reg"
	"counterpane/sheet"
	"counterpane/value"
)

func id(author, n int) api.Id { return api.Id{Author: author, N: n} }

// texts tells the sheet's texts, rows with | between.
func texts(w *Writer) string {
	s := w.Sheet()
	var rows []string
	for row := range s.Rows.Len() {
		var l []string
		for col := range s.Cols.Len() {
			l = append(l, s.Text(row, col))
		}
		rows = append(rows, strings.Join(l, ","))
	}
	return strings.Join(rows, "|")
}

func conflicts(w *Writer) string {
	var out []string
	for at, l := range w.Conflicts() {
		for _, x := range l {
			out = append(out, strconv.Itoa(at.Row.N)+"."+strconv.Itoa(at.Col.N)+"="+strconv.Itoa(x.Id.Author)+":"+value.Show(x.Content.Value))
		}
	}
	return strings.Join(out, " ")
}

func send(t *testing.T, from, to *Writer) {
	t.Helper()
	for _, l := range from.Since(to.Seen()) {
		if e := to.Take(l); e != api.OK {
			t.Fatal(e)
		}
	}
}

func alike(a, b *Writer) bool {
	same := func(x, y reg.Write) bool {
		return x.Id == y.Id && cells.Same(x.Content, y.Content) && slices.Equal(x.Over, y.Over)
	}
	var l, m []api.Cell
	var x, y []reg.Write
	for at, w := range a.Conflicts() {
		l, x = append(l, at), append(x, w...)
	}
	for at, w := range b.Conflicts() {
		m, y = append(m, at), append(y, w...)
	}
	return sheet.Same(a.Sheet(), b.Sheet()) && slices.Equal(l, m) && slices.EqualFunc(x, y, same)
}

func TestExample(t *testing.T) {
	a, b := New(1, 1, 1), New(2, 1, 1)
	a.Type(0, 0, "5")
	b.Type(0, 0, "7")
	send(t, a, b)
	send(t, b, a)
	if texts(a) != "7" || texts(b) != "7" || conflicts(a) != "1.1=1:5" || conflicts(b) != "1.1=1:5" || !alike(a, b) {
		t.Error(texts(a), conflicts(a))
	}
	l, _, _ := a.Type(0, 0, "9")
	if texts(a) != "9" || conflicts(a) != "" || !slices.Equal(l.Seen, []api.Id{id(1, 1), id(2, 1)}) || l.Deed.Id != id(1, 2) {
		t.Error(texts(a), l)
	}
	if _, e := a.TakeBack(id(1, 2)); e != api.OK || texts(a) != "7" || conflicts(a) != "1.1=1:5" {
		t.Error(texts(a), conflicts(a))
	}
	if _, e := b.TakeBack(id(2, 1)); e != api.OK {
		t.Error(e)
	}
	send(t, b, a)
	if texts(a) != "5" || conflicts(a) != "" {
		t.Error(texts(a), conflicts(a))
	}
}

func TestP38_1(t *testing.T) {
	for _, author := range []int{0, -1, 1001, math.MinInt, math.MaxInt} {
		if New(author, 1, 1) != nil {
			t.Error(author)
		}
	}
	w := New(1000, 2, 3)
	if !sheet.Same(w.Sheet(), sheet.New(2, 3)) || conflicts(w) != "" || w.Seen().Next(1) != id(1, 1) || w.Since(nil) != nil || w.Waiting() != 0 {
		t.Error("new")
	}
	if s := New(1, -5, math.MaxInt).Sheet(); s.Rows.Len() != 0 || s.Cols.Len() != 1000 {
		t.Error("cut")
	}
	w.Sheet().Type(0, 0, "x")
	if texts(w) != ",,|,," {
		t.Error("not in new memory")
	}
	w.Type(0, 0, "=SUM(A1)")
	l := w.Since(nil)
	l[0].Deed.Content.Tree.L[0] = api.Node{}
	if texts(w) != "=SUM(A1),,|,," || len(w.Since(w.Seen())) != 0 {
		t.Error("not apart")
	}
	seen := dot.New()
	seen.Add(id(1000, 1))
	w.Type(0, 1, "y")
	if l := w.Since(seen); len(l) != 1 || l[0].Deed.Id != id(1000, 2) {
		t.Error(l)
	}
	for range w.Conflicts() {
		t.Error("none")
	}
}

func TestP38_2(t *testing.T) {
	w := New(1, 2, 2)
	for i, c := range []struct {
		row, col int
		s        string
		at       int
		e        api.Errno
	}{{0, 0, "=A2+TAX", 0, api.OK}, {2, 0, "x", 0, api.ErrPlace}, {0, 0, "=1+", 3, api.ErrForm}, {0, 1, strings.Repeat("x", 256), 0, api.ErrLong}, {1, 1, "", 0, api.OK}} {
		before := len(w.Since(nil))
		l, at, e := w.Type(c.row, c.col, c.s)
		if at != c.at || e != c.e || (len(w.Since(nil)) == before) != (e != api.OK) || e != api.OK && l.Deed.Id != (api.Id{}) {
			t.Error(i, at, e)
		}
		if e == api.OK && (l.Deed.Kind != api.SetCell || w.Sheet().Text(c.row, c.col) != c.s) {
			t.Error(l)
		}
	}
	for i, c := range []struct {
		name, s string
		at      int
		e       api.Errno
	}{{"TAX", "=(", 2, api.ErrForm}, {"TAX", "5", 0, api.ErrKind}, {"tax", "=1", 0, api.ErrName}, {"TAX", "=B_", 0, api.ErrKind}, {"TAX", "", 0, api.ErrNone}, {"TAX", "=A1*2", 0, api.OK}, {"TAX", "=B2", 0, api.OK}, {"TAX", "=Z9", 1, api.ErrPlace}} {
		l, at, e := w.Name(c.name, c.s)
		if at != c.at || e != c.e || e != api.OK && l.Deed.Kind != 0 || e == api.OK && (l.Deed.Kind != api.SetName || l.Deed.Text != "TAX") {
			t.Error(i, at, e)
		}
	}
	if n, ok := w.Sheet().Names.Get("TAX"); !ok || n.Kind != api.One || n.Area.A.Row != id(0, 2) {
		t.Error(n)
	}
	if _, _, e := w.Name("TAX", ""); e != api.OK {
		t.Error(e)
	}
	if _, ok := w.Sheet().Names.Get("TAX"); ok {
		t.Error("dropped")
	}
}

func TestP38_3(t *testing.T) {
	w := New(1, 2, 2)
	w.Type(0, 0, "a")
	w.Type(1, 1, "d")
	step := func(l oplog.Letter, e, want api.Errno, kind int, text string) {
		t.Helper()
		if e != want || l.Deed.Kind != kind || texts(w) != text {
			t.Error(e, l.Deed.Kind, texts(w))
		}
	}
	l, e := w.InsertRow(0)
	step(l, e, api.OK, api.InsertRow, ",|a,|,d")
	l, e = w.InsertRow(3)
	step(l, e, api.OK, api.InsertRow, ",|a,|,d|,")
	l, e = w.InsertRow(5)
	step(l, e, api.ErrPlace, 0, ",|a,|,d|,")
	l, e = w.InsertRow(-1)
	step(l, e, api.ErrPlace, 0, ",|a,|,d|,")
	l, e = w.InsertCol(math.MinInt)
	step(l, e, api.ErrPlace, 0, ",|a,|,d|,")
	l, e = w.InsertCol(1)
	step(l, e, api.OK, api.InsertCol, ",,|a,,|,,d|,,")
	col := l.Deed.Id
	l, e = w.DeleteRow(1)
	step(l, e, api.OK, api.DeleteRow, ",,|,,d|,,")
	row := l.Deed.Id
	l, e = w.DeleteRow(3)
	step(l, e, api.ErrPlace, 0, ",,|,,d|,,")
	l, e = w.DeleteCol(-1)
	step(l, e, api.ErrPlace, 0, ",,|,,d|,,")
	l, e = w.DeleteCol(2)
	step(l, e, api.OK, api.DeleteCol, ",|,|,")
	l, e = w.TakeBack(row)
	step(l, e, api.OK, api.TakeBack, ",|a,|,|,")
	back := l.Deed.Id
	l, e = w.TakeBack(row)
	step(l, e, api.ErrState, 0, ",|a,|,|,")
	l, e = w.TakeBack(back)
	step(l, e, api.OK, api.TakeBack, ",|,|,")
	l, e = w.TakeBack(back)
	step(l, e, api.ErrState, 0, ",|,|,")
	l, e = w.TakeBack(col)
	step(l, e, api.OK, api.TakeBack, "||")
	l, e = w.TakeBack(id(1, 99))
	step(l, e, api.ErrNone, 0, "||")
	l, e = w.TakeBack(id(2, 1))
	step(l, e, api.ErrNone, 0, "||")
	w.Take(oplog.Letter{Deed: api.Deed{Id: id(2, 1), Kind: api.InsertRow}})
	l, e = w.TakeBack(id(2, 1))
	step(l, e, api.ErrPlace, 0, "|||")
	full := New(1, 1000, 999)
	if _, e := full.InsertRow(0); e != api.ErrFull {
		t.Error(e)
	}
	if _, e := full.InsertRow(1001); e != api.ErrPlace {
		t.Error(e)
	}
	full.InsertCol(0)
	full.DeleteCol(0)
	if _, e := full.InsertCol(0); e != api.ErrFull {
		t.Error(e)
	}
}

func TestP38_4(t *testing.T) {
	a, b := New(1, 1, 1), New(2, 1, 1)
	a.Type(0, 0, "1")
	a.Type(0, 0, "2")
	l := a.Since(nil)
	if e := b.Take(l[1]); e != api.OK || texts(b) != "" || b.Since(nil) != nil || b.Waiting() != 1 {
		t.Error(e)
	}
	if e := b.Take(l[0]); e != api.OK || texts(b) != "2" || len(b.Since(nil)) != 2 || b.Take(l[0]) != api.OK || len(b.Since(nil)) != 2 {
		t.Error(e)
	}
	if b.Take(oplog.Letter{}) != api.ErrForm {
		t.Error("form")
	}
	// What another one's letter takes back that isn't its own isn't gone, nor what has no lesser number.
	odd := New(3, 1, 1)
	odd.Take(oplog.Letter{Deed: api.Deed{Id: id(1, 1), Kind: api.SetCell, Cell: api.Cell{Row: id(0, 1), Col: id(0, 1)}, Content: api.Content{Kind: api.Typed, Value: value.Read("x")}}})
	odd.Take(oplog.Letter{Deed: api.Deed{Id: id(2, 2), Kind: api.TakeBack, At: id(1, 1)}, Seen: []api.Id{id(1, 1)}})
	odd.Take(oplog.Letter{Deed: api.Deed{Id: id(1, 3), Kind: api.TakeBack, At: id(1, 3)}, Seen: []api.Id{id(1, 1), id(2, 2)}})
	odd.Take(oplog.Letter{Deed: api.Deed{Id: id(1, 4), Kind: api.TakeBack, At: id(1, 7)}, Seen: []api.Id{id(1, 3)}})
	if texts(odd) != "x" || len(odd.Since(nil)) != 4 {
		t.Error(texts(odd))
	}
	var none *Writer
	_, _, e1 := none.Type(0, 0, "x")
	_, _, e2 := none.Name("TAX", "=1")
	_, e3 := none.InsertRow(0)
	_, e4 := none.InsertCol(0)
	_, e5 := none.DeleteRow(0)
	_, e6 := none.DeleteCol(0)
	_, e7 := none.TakeBack(id(1, 1))
	for i, e := range []api.Errno{e1, e2, e3, e4, e5, e6, e7, none.Take(l[0])} {
		if e != api.ErrArg {
			t.Error(i, e)
		}
	}
	if none.Sheet() != nil || none.Since(nil) != nil || none.Seen() == nil || none.Seen().Has(id(1, 1)) {
		t.Error("nil")
	}
	for range none.Conflicts() {
		t.Error("nil")
	}
}

func TestP38_5(t *testing.T) {
	r := rand.New(rand.NewSource(1))
	for range 60 {
		w := []*Writer{New(1, 3, 2), New(2, 3, 2), New(3, 3, 2)}
		for range 25 {
			i := r.Intn(3)
			s := w[i].Sheet()
			row, col := r.Intn(s.Rows.Len()+1), r.Intn(s.Cols.Len()+1)
			switch r.Intn(8) {
			case 0:
				if l, e := w[i].InsertRow(row); e == api.OK {
					if at, _ := w[i].Sheet().Rows.At(row); at != l.Deed.Id {
						t.Fatal("not at that place")
					}
				}
			case 1:
				w[i].DeleteRow(row)
			case 2:
				w[i].InsertCol(col)
			case 3:
				if l := w[i].Since(nil); len(l) > 0 {
					w[i].TakeBack(l[r.Intn(len(l))].Deed.Id)
				}
			case 4:
				w[i].Name([]string{"N_", "M_"}[r.Intn(2)], []string{"=A1", "", "=5"}[r.Intn(3)])
			case 5:
				send(t, w[i], w[r.Intn(3)])
			default:
				text := strconv.Itoa(r.Intn(100))
				if l, _, e := w[i].Type(row, col, text); e == api.OK {
					if w[i].Sheet().Text(row, col) != text {
						t.Fatal("not what is typed")
					}
					for at := range w[i].Conflicts() {
						if at == l.Deed.Cell {
							t.Fatal("a conflict is left")
						}
					}
				}
			}
		}
		for range 2 {
			for i := range w {
				send(t, w[i], w[(i+1)%3])
			}
		}
		l := w[0].Since(nil)
		r.Shuffle(len(l), func(i, j int) { l[i], l[j] = l[j], l[i] })
		late := New(9, 3, 2)
		for _, x := range l {
			late.Take(x)
		}
		if !alike(w[0], w[1]) || !alike(w[1], w[2]) || !alike(late, w[0]) || late.Waiting() != 0 {
			t.Fatal("apart")
		}
	}
}
