package host

import (
	"slices"
	"strconv"
	"strings"

	"majordomo/api"
	"majordomo/blockfs"
	"majordomo/disk"
	"majordomo/provider"
	"majordomo/tables"
)

// The agent's own files, and their mode; the mode of the directories of a new tree.
const (
	owedPath   = "/run/owed"
	stagedPath = "/run/catalog"
	ownMode    = 384
	dirMode    = 493
)

// mostRefreshed is how many refreshes of a service are counted, in so many digits; behind it the count begins anew.
const (
	mostRefreshed = 999999999
	mostDigits    = 9
)

// tree is the file system of a host, with the agent's own files in it. It is read anew each time, as others edit it too.
type tree struct{ fs *blockfs.FS }

// formatTree makes the tree of a new host.
func formatTree(d *disk.Disk) api.Errno {
	if e := blockfs.Format(d); e != api.OK {
		return e
	}
	f, e := blockfs.Open(d)
	if e != api.OK {
		return e
	}
	return f.Do([]api.Edit{
		{Kind: api.EdDir, Path: "/tab", Mode: dirMode},
		{Kind: api.EdDir, Path: "/run", Mode: dirMode},
	})
}

// own is the bytes of one of the agent's files, and whether there is such a file: a link has bytes too, but is none.
func (t *tree) own(path string) ([]byte, bool) {
	now, e := t.fs.Stat(path)
	if e != api.OK || now.Kind != api.KindFile {
		return nil, false
	}
	b, e := t.fs.Read(path)
	return b, e == api.OK
}

func ownFile(path string, b []byte) api.Edit {
	return api.Edit{Kind: api.EdFile, Path: path, Mode: ownMode, Bytes: b}
}

// owed is the titles of the services that must be refreshed, rising.
func (t *tree) owed() []string {
	b, _ := t.own(owedPath)
	return takeTitles(b)
}

// owe makes these titles, which rise, all that are owed.
func owe(titles []string) api.Edit {
	var b []byte
	for _, title := range titles {
		b = append(append(b, title...), '\n')
	}
	return ownFile(owedPath, b)
}

// takeTitles is the titles that owe lays as these bytes, none if there are none.
func takeTitles(b []byte) []string {
	var l []string
	last := ""
	for line := range strings.Lines(string(b)) {
		title, ended := strings.CutSuffix(line, "\n")
		if !ended || !isKey(title) || title <= last {
			return nil
		}
		l = append(l, title)
		last = title
	}
	return l
}

// isKey asks for a row of this key, whose cells may be empty.
func isKey(s string) bool {
	cells := make([]string, tables.Width(api.TabServices))
	return tables.Check(api.TabServices, api.Row{Key: s, Cells: cells}) == api.OK
}

// notified is the titles of the services that a resource notifies, in a sound catalog.
func notified(c api.Catalog, i int) []string {
	var l []string
	for _, x := range c.E {
		if to := c.R[x.To]; x.From == i && x.Notify && to.Type == api.TypeService {
			l = append(l, to.Title)
		}
	}
	return l
}

// withAll is rising titles, and more of them put in where they belong.
func withAll(titles, more []string) []string {
	l := slices.Concat(titles, more)
	slices.Sort(l)
	return slices.Compact(l)
}

// refreshed is the edits that count one more refresh of a service, none if it has no row.
func (t *tree) refreshed(title string) ([]api.Edit, api.Errno) {
	rows, e := provider.Rows(t.fs, api.TabServices)
	if e != api.OK {
		return nil, e
	}
	r, is := tables.Get(rows, title)
	if !is {
		return nil, api.OK
	}
	r.Cells[1] = oneMore(r.Cells[1])
	return provider.SetRow(t.fs, api.TabServices, r, false)
}

// oneMore is the cell behind one that counts refreshes.
func oneMore(cell string) string {
	n := 0
	if isCount(cell) {
		n, _ = strconv.Atoi(cell)
	}
	if n == mostRefreshed {
		return "0"
	}
	return strconv.Itoa(n + 1)
}

// isCount tells whether a cell is 1 to 9 digits; strconv alone would take a sign, too.
func isCount(cell string) bool {
	if cell == "" || len(cell) > mostDigits {
		return false
	}
	return strings.Trim(cell, "0123456789") == ""
}
