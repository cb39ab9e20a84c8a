package tables

import (
	"strings"

	"majordomo/api"
)

// What stands between a key and its cells, and behind a row: no word has either.
const (
	between = ":"
	behind  = "\n"
)

// Parse reads a table's text, Print writes it.
func Parse(table string, b []byte) ([]api.Row, api.Errno) {
	if Width(table) == 0 {
		return nil, api.ErrTable
	}
	// Print answers no more bytes, so greater texts need not be read.
	if len(b) > api.MaxFile {
		return nil, api.ErrRow
	}
	text := string(b)
	l := readRows(text)
	// A text is a table's if just it is printed for what was read.
	again, e := Print(table, l)
	if e != api.OK || string(again) != text {
		return nil, api.ErrRow
	}
	return l, api.OK
}

func Print(table string, l []api.Row) ([]byte, api.Errno) {
	width := Width(table)
	if width == 0 {
		return nil, api.ErrTable
	}
	if len(l) > api.MaxRows {
		return nil, api.ErrLong
	}
	if !soundRows(l, width) {
		return nil, api.ErrRow
	}
	b := writeRows(l)
	if len(b) > api.MaxFile {
		return nil, api.ErrLong
	}
	return b, api.OK
}

func soundRows(l []api.Row, width int) bool {
	for i, r := range l {
		if !soundRow(r, width) {
			return false
		}
		if i > 0 && l[i-1].Key >= r.Key {
			return false
		}
	}
	return true
}

func writeRows(l []api.Row) []byte {
	var b []byte
	for _, r := range l {
		b = append(b, r.Key...)
		for _, cell := range r.Cells {
			b = append(b, between...)
			b = append(b, cell...)
		}
		b = append(b, behind...)
	}
	return b
}

// readRows is the rows of a text, sound or not; a last row without its end counts too.
func readRows(text string) []api.Row {
	var l []api.Row
	for text != "" {
		var line string
		line, text, _ = strings.Cut(text, behind)
		words := strings.Split(line, between)
		l = append(l, api.Row{Key: words[0], Cells: words[1:]})
	}
	return l
}
