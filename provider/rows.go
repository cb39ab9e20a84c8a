package provider

import (
	"slices"

	"majordomo/api"
	"majordomo/blockfs"
	"majordomo/resource"
	"majordomo/tables"
)

// tableMode is the mode of a table's file.
const tableMode = 420

func tablePath(table string) string { return "/tab/" + table }

// tableText is the bytes of a table's file, none if nothing is there.
func tableText(f *blockfs.FS, table string) ([]byte, api.Errno) {
	if tables.Width(table) == 0 {
		return nil, api.ErrTable
	}
	now, e := at(f, tablePath(table))
	if e != api.OK {
		return nil, e
	}
	switch now.Kind {
	case api.KindNone:
		return nil, api.OK
	case api.KindFile:
		return f.Read(tablePath(table))
	}
	return nil, api.ErrCorrupt
}

// setRows makes the rows of a table the next ones.
func setRows(table string, now, next []api.Row) ([]api.Edit, api.Errno) {
	if slices.EqualFunc(now, next, sameRow) {
		return nil, api.OK
	}
	b, e := tables.Print(table, next)
	if e != api.OK {
		return nil, e
	}
	return []api.Edit{{Kind: api.EdFile, Path: tablePath(table), Mode: tableMode, Bytes: b}}, api.OK
}

func sameRow(a, b api.Row) bool {
	return a.Key == b.Key && slices.Equal(a.Cells, b.Cells)
}

// planRow is for a resource that is a row with these parameters as cells, or none.
func planRow(f *blockfs.FS, table string, r api.Resource, params ...string) ([]api.Edit, api.Errno) {
	row := api.Row{Key: r.Title}
	if param(r, "ensure") == "absent" {
		return SetRow(f, table, row, true)
	}
	for _, name := range params {
		row.Cells = append(row.Cells, param(r, name))
	}
	return SetRow(f, table, row, false)
}

// planService keeps how often a service was refreshed.
func planService(f *blockfs.FS, r api.Resource) ([]api.Edit, api.Errno) {
	l, e := Rows(f, api.TabServices)
	if e != api.OK {
		return nil, e
	}
	refreshed := "0"
	if now, is := tables.Get(l, r.Title); is {
		refreshed = now.Cells[1]
	}
	row := api.Row{Key: r.Title, Cells: []string{param(r, "ensure"), refreshed}}
	return SetRow(f, api.TabServices, row, false)
}

// param is a parameter's value, in a resource that has it.
func param(r api.Resource, name string) string {
	value, _ := resource.Get(r, name)
	return value
}
