package cell

import (
	"haymow/api"
	"haymow/mem"
)

// fill is what one knows who fills.
type fill struct {
	in         Cell
	value, why int64
	head       int64 // as it was loaded last
}

// storesValue and storesWhy come ahead of the head, because whoever finds the
// cell filled takes both.
func (f *fill) storesValue(m *mem.Mem) (move, End, api.Errno) {
	return behind(m.Store(f.in.value(), f.value), f.storesWhy)
}

func (f *fill) storesWhy(m *mem.Mem) (move, End, api.Errno) {
	return behind(m.Store(f.in.why(), f.why), f.looks)
}

func (f *fill) looks(m *mem.Mem) (move, End, api.Errno) {
	h, e := m.Load(f.in.head())
	f.head = h
	return behind(e, f.closes)
}

func (f *fill) closes(m *mem.Mem) (move, End, api.Errno) {
	swapped, e := m.Swap(f.in.head(), f.head, filled)
	if e == api.OK && !swapped {
		return f.looks, End{}, api.OK
	}
	return ends(e, End{First: f.head})
}
