package layout

import (
	"bytes"

	"majordomo/api"
)

const nameAt = 2 // the place of the name in an entry's record, behind the node and the name's length

// PutEntries is a directory's bytes; TakeEntries reads them.
func PutEntries(l []api.Entry) ([]byte, api.Errno) {
	if len(l) > api.MaxEntries {
		return nil, api.ErrLong
	}
	if !soundEntries(l) {
		return nil, api.ErrArg
	}
	b := make([]byte, recordSize*len(l))
	for i, x := range l {
		r := entryRecord(x)
		copy(b[recordSize*i:], r[:])
	}
	return b, api.OK
}

func TakeEntries(b []byte) ([]api.Entry, api.Errno) {
	if len(b)%recordSize > 0 || len(b) > recordSize*api.MaxEntries {
		return nil, api.ErrCorrupt
	}
	var l []api.Entry
	for at := 0; at < len(b); at += recordSize {
		l = append(l, readEntry(record(b[at:at+recordSize])))
	}
	// Bytes are a directory's if just they are laid for what was read.
	again, e := PutEntries(l)
	if e != api.OK || !bytes.Equal(again, b) {
		return nil, api.ErrCorrupt
	}
	return l, api.OK
}

func soundEntries(l []api.Entry) bool {
	for i, x := range l {
		if x.Node < 1 || x.Node >= api.MaxNodes || !Name(x.Name) {
			return false
		}
		if i > 0 && l[i-1].Name >= x.Name {
			return false
		}
	}
	return true
}

func entryRecord(x api.Entry) record {
	r := record{byte(x.Node), byte(len(x.Name))}
	copy(r[nameAt:], x.Name)
	return r
}

// readEntry is what a record tells; a name that would end behind the record is cut, and then too long to be one.
func readEntry(r record) api.Entry {
	end := min(nameAt+int(r[1]), recordSize)
	return api.Entry{Node: int(r[0]), Name: string(r[nameAt:end])}
}
