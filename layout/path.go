package layout

import (
	"strings"

	"majordomo/api"
)

// Name tells whether a text is a name; Path is a path's names.
func Name(s string) bool {
	if len(s) < 1 || len(s) > api.MaxName || s == "." || s == ".." {
		return false
	}
	for i := range len(s) {
		if !nameByte(s[i]) {
			return false
		}
	}
	return true
}

func Path(s string) ([]string, api.Errno) {
	if len(s) > api.MaxPath || !strings.HasPrefix(s, "/") {
		return nil, api.ErrPath
	}
	if s == "/" {
		return nil, api.OK
	}
	l := strings.Split(s[1:], "/")
	if len(l) > api.MaxDepth {
		return nil, api.ErrPath
	}
	for _, x := range l {
		if !Name(x) {
			return nil, api.ErrPath
		}
	}
	return l, api.OK
}

func nameByte(c byte) bool {
	switch {
	case c >= 'A' && c <= 'Z', c >= 'a' && c <= 'z', c >= '0' && c <= '9':
		return true
	}
	return c == '.' || c == '_' || c == '-'
}
