package device

import "scrivener/api"

func mayHave(pages int) bool { return pages >= api.MinPages && pages <= api.MaxPages }

func isNoPage(data string) bool { return len(data) != api.PageSize }

// orNone is the device; where there is none, a dead one without pages: New and Load give none beside an error, and no call on that may panic.
func (d *Device) orNone() *Device {
	if d == nil {
		return &Device{dead: true}
	}
	return d
}

func (d *Device) has(page int) bool { return page >= 0 && page < d.Size() }

// act does what a call tries, unless the device dies in it. It is counted when all is over, so that an act sees the device as it was.
func (d *Device) act(try func()) api.Errno {
	defer func() {
		if d.left > 0 {
			d.left--
			d.dead = d.left == 0
		}
	}()
	if d.left == 1 {
		return api.ErrDead
	}
	try()
	return api.OK
}

// settle ends a pending write: its first bytes last.
func (d *Device) settle(w api.Write, bytes int) {
	d.lasting[w.Page] = w.Data[:bytes] + d.lasting[w.Page][bytes:]
	delete(d.pending, w.Page)
}

// keptOf tells, of each of so many pending writes, how many bytes stay; and whether all that is told is of these.
func keptOf(l []api.Keep, pending int) ([]int, bool) {
	kept, named := make([]int, pending), make([]bool, pending)
	for _, k := range l {
		switch {
		case k.N < 0 || k.N >= pending || named[k.N]:
			return nil, false
		case k.Bytes < 0 || k.Bytes > api.PageSize:
			return nil, false
		}
		kept[k.N], named[k.N] = k.Bytes, true
	}
	return kept, true
}
