package blockfs

import (
	"bytes"
	"slices"

	"majordomo/api"
	"majordomo/layout"
)

// tooLong tells whether edits are more, or of more bytes, than are done at once.
func tooLong(l []api.Edit) bool {
	if len(l) > api.MaxEdits {
		return true
	}
	sum := 0
	for _, x := range l {
		if x.Kind == api.EdFile || x.Kind == api.EdLink {
			sum += len(x.Bytes)
		}
	}
	return sum > api.MaxFile
}

// edit does an edit in the tree of this root; one that it refuses changes nothing.
func (n *node) edit(x api.Edit) api.Errno {
	if !soundEdit(x) {
		return api.ErrArg
	}
	names, e := layout.Path(x.Path)
	if e != api.OK {
		return e
	}
	if len(names) == 0 {
		return n.editRoot(x)
	}
	last := len(names) - 1
	parent, e := n.follow(names[:last])
	if e != api.OK {
		return e
	}
	if parent.kind != api.KindDir {
		return api.ErrKind
	}
	return parent.editEntry(names[last], x)
}

// soundEdit tells whether the kind is one, and the mode of one that has a mode.
func soundEdit(x api.Edit) bool {
	switch x.Kind {
	case api.EdFile, api.EdDir, api.EdMode:
		return x.Mode >= 0 && x.Mode <= api.MaxMode
	case api.EdLink, api.EdGone:
		return true
	}
	return false
}

func (n *node) editRoot(x api.Edit) api.Errno {
	switch x.Kind {
	case api.EdFile, api.EdLink:
		return api.ErrKind
	case api.EdGone:
		return api.ErrPath
	}
	n.mode = x.Mode
	return api.OK
}

func (n *node) editEntry(name string, x api.Edit) api.Errno {
	switch x.Kind {
	case api.EdFile:
		return n.put(name, api.KindFile, x.Mode, x.Bytes)
	case api.EdDir:
		return n.put(name, api.KindDir, x.Mode, nil)
	case api.EdLink:
		if len(x.Bytes) > api.MaxPath {
			return api.ErrLong
		}
		return n.put(name, api.KindLink, 0, x.Bytes)
	case api.EdMode:
		return n.setMode(name, x.Mode)
	}
	return n.drop(name)
}

// put makes what is at a name so, or makes it.
func (n *node) put(name string, kind, mode int, b []byte) api.Errno {
	x := n.entries[name]
	if x == nil {
		if len(n.entries) == api.MaxEntries {
			return api.ErrNames
		}
		x = newNode(kind, mode)
		n.entries[name] = x
		n.fresh = true
	}
	if x.kind != kind {
		return api.ErrKind
	}
	x.mode = mode
	if !bytes.Equal(x.bytes, b) {
		x.bytes, x.fresh = slices.Clone(b), true
	}
	return api.OK
}

func (n *node) setMode(name string, mode int) api.Errno {
	x := n.entries[name]
	if x == nil {
		return api.ErrNoEntry
	}
	if x.kind != api.KindLink {
		x.mode = mode
	}
	return api.OK
}

func (n *node) drop(name string) api.Errno {
	if n.entries[name] == nil {
		return api.ErrNoEntry
	}
	delete(n.entries, name)
	n.fresh = true
	return api.OK
}
