package provider

import (
	"bytes"
	"strconv"

	"majordomo/api"
	"majordomo/blockfs"
	"majordomo/layout"
)

// wayMode is the mode of directories that are made on the way to a path.
const wayMode = 493

// goal is the node that a file resource asks for: its kind, the edit that makes it where nothing is, and what is left to do where a node of this kind is.
type goal struct {
	kind int
	lay  api.Edit
	mend func(now api.Node) ([]api.Edit, api.Errno)
}

func planFile(f *blockfs.FS, c api.Catalog, r api.Resource) ([]api.Edit, api.Errno) {
	switch param(r, "ensure") {
	case "absent":
		return planAbsent(f, r.Title)
	case "directory":
		return planGoal(f, dirGoal(f, c, r))
	case "link":
		target := api.Edit{Kind: api.EdLink, Path: r.Title, Bytes: []byte(param(r, "target"))}
		return planGoal(f, bytesGoal(f, api.KindLink, target))
	default: // catalog.Check leaves one more state
		content := api.Edit{Kind: api.EdFile, Path: r.Title, Mode: mode(r), Bytes: []byte(param(r, "content"))}
		return planGoal(f, bytesGoal(f, api.KindFile, content))
	}
}

func planAbsent(f *blockfs.FS, path string) ([]api.Edit, api.Errno) {
	now, e := at(f, path)
	switch {
	case e != api.OK:
		return nil, e
	case now.Kind == api.KindNone:
		return nil, api.OK
	case now.Kind == api.KindDir && now.Size > 0:
		return nil, api.ErrBlocked
	}
	return []api.Edit{gone(path)}, api.OK
}

func planGoal(f *blockfs.FS, g goal) ([]api.Edit, api.Errno) {
	way, e := wayTo(f, g.lay.Path)
	if e != api.OK {
		return nil, e
	}
	now, e := at(f, g.lay.Path)
	switch {
	case e != api.OK:
		return nil, e
	case now.Kind == api.KindNone:
		return append(way, g.lay), api.OK
	case now.Kind == g.kind:
		return g.mend(now)
	case now.Kind == api.KindDir: // there may be much in it, so it is nobody's to be replaced
		return nil, api.ErrBlocked
	}
	return []api.Edit{gone(g.lay.Path), g.lay}, api.OK
}

// bytesGoal is for a file or a link. The mode of each link is 0, as is that of the edit that lays one.
func bytesGoal(f *blockfs.FS, kind int, lay api.Edit) goal {
	return goal{kind, lay, func(now api.Node) ([]api.Edit, api.Errno) {
		b, e := f.Read(lay.Path)
		if e != api.OK {
			return nil, e
		}
		if now.Mode == lay.Mode && bytes.Equal(b, lay.Bytes) {
			return nil, api.OK
		}
		return []api.Edit{lay}, api.OK
	}}
}

func dirGoal(f *blockfs.FS, c api.Catalog, r api.Resource) goal {
	lay := api.Edit{Kind: api.EdDir, Path: r.Title, Mode: mode(r)}
	return goal{api.KindDir, lay, func(now api.Node) ([]api.Edit, api.Errno) {
		var l []api.Edit
		if now.Mode != lay.Mode {
			l = append(l, api.Edit{Kind: api.EdMode, Path: lay.Path, Mode: lay.Mode})
		}
		if param(r, "purge") != "true" {
			return l, api.OK
		}
		names, e := f.List(lay.Path)
		if e != api.OK {
			return nil, e
		}
		for _, name := range names {
			if path := lay.Path + "/" + name; !Named(c, path) {
				l = append(l, gone(path))
			}
		}
		return l, api.OK
	}}
}

// wayTo makes the directories that are missing on the way to a path.
func wayTo(f *blockfs.FS, path string) ([]api.Edit, api.Errno) {
	names, e := layout.Path(path)
	if e != api.OK {
		return nil, e
	}
	var l []api.Edit
	dir := ""
	for _, name := range names[:len(names)-1] {
		dir += "/" + name
		now, e := at(f, dir)
		switch {
		case e != api.OK:
			return nil, e
		case now.Kind == api.KindNone:
			l = append(l, api.Edit{Kind: api.EdDir, Path: dir, Mode: wayMode})
		case now.Kind != api.KindDir:
			return nil, api.ErrBlocked
		}
	}
	return l, api.OK
}

// at is the node at a path, of KindNone if nothing is there or the path leads nowhere. Other errors tell nothing about the path, so they are told on.
func at(f *blockfs.FS, path string) (api.Node, api.Errno) {
	now, e := f.Stat(path)
	switch e {
	case api.ErrPath, api.ErrNoEntry, api.ErrKind:
		return api.Node{}, api.OK
	}
	return now, e
}

func gone(path string) api.Edit { return api.Edit{Kind: api.EdGone, Path: path} }

// mode is the mode that a resource's four digits tell, which catalog.Check has seen.
func mode(r api.Resource) int {
	n, _ := strconv.ParseInt(param(r, "mode"), 8, 0)
	return int(n)
}
