package host

import (
	"majordomo/api"
	"majordomo/disk"
	"majordomo/layout"
)

// block is an array so that the bytes of two can be compared.
type block [api.BlockSize]byte

// pendingAt is where the byte behind the eight of the count is.
const pendingAt = 8

// mark is what the block Counter of a disk holds.
type mark struct {
	d   *disk.Disk
	at  int
	now api.Mark
}

// become writes the next mark, if it is another.
func (m *mark) become(next api.Mark) api.Errno {
	if next == m.now {
		return api.OK
	}
	if m.d == nil { // no Open gave it
		return api.ErrCorrupt
	}
	if e := m.d.Write(m.at, encodeMark(next)); e != api.OK {
		return e
	}
	m.now = next
	return api.OK
}

// findMark is the mark of a disk, ErrCorrupt if there is none.
func findMark(d *disk.Disk) (mark, api.Errno) {
	lay, e := layout.Of(d.Len())
	if e != api.OK {
		return mark{}, e
	}
	b, e := d.Read(lay.Counter)
	if e != api.OK {
		return mark{}, e
	}
	now, e := decodeMark(b)
	if e != api.OK {
		return mark{}, e
	}
	return mark{d, lay.Counter, now}, api.OK
}

func encodeMark(m api.Mark) []byte {
	var b block
	for i := range pendingAt {
		b[pendingAt-1-i] = byte(m.Count >> (8 * i))
	}
	if m.Pending {
		b[pendingAt] = 1
	}
	return b[:]
}

// decodeMark takes bytes only if just they are written for the mark that was read.
func decodeMark(b []byte) (api.Mark, api.Errno) {
	m := api.Mark{Pending: b[pendingAt] == 1}
	for _, x := range b[:pendingAt] {
		m.Count = m.Count<<8 | int(x)
	}
	if m.Count < 0 || block(encodeMark(m)) != block(b) {
		return api.Mark{}, api.ErrCorrupt
	}
	return m, api.OK
}

// noMark is the bytes of a block that are no mark.
func noMark() []byte {
	b := encodeMark(api.Mark{})
	b[pendingAt] = 2
	return b
}
