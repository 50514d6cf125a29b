package cell

import (
	"haymow/api"
	"haymow/mem"
)

// wait is what one knows who waits.
type wait struct {
	in    Cell
	who   int64
	link  int
	head  int64 // as it was loaded last
	value int64 // as it was loaded
}

func (w *wait) looks(m *mem.Mem) (move, End, api.Errno) {
	h, e := m.Load(w.in.head())
	w.head = h
	if h == filled {
		return behind(e, w.takesValue)
	}
	return behind(e, w.links)
}

// links comes ahead of joining, because whoever fills may follow the link as
// soon as the head says who waits.
func (w *wait) links(m *mem.Mem) (move, End, api.Errno) {
	return behind(m.Store(w.link, w.head), w.joins)
}

func (w *wait) joins(m *mem.Mem) (move, End, api.Errno) {
	swapped, e := m.Swap(w.in.head(), w.head, w.who)
	if e == api.OK && !swapped {
		return w.looks, End{}, api.OK
	}
	return ends(e, End{Waits: true})
}

func (w *wait) takesValue(m *mem.Mem) (move, End, api.Errno) {
	n, e := m.Load(w.in.value())
	w.value = n
	return behind(e, w.takesWhy)
}

func (w *wait) takesWhy(m *mem.Mem) (move, End, api.Errno) {
	why, e := m.Load(w.in.why())
	return ends(e, End{Value: w.value, Why: why})
}
