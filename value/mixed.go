package value

import (
	"strings"

	"majordomo/api"
	"majordomo/lexer"
)

// Mixed is a text with its variables' values.
func Mixed(s string, env []api.Bind) (string, api.Errno) {
	var out answer
	end := 0 // of the variable before
	for i, r := range s {
		if r != '$' || !strings.HasPrefix(s[i:], "${") {
			continue
		}
		name, is := inBraces(s[i+len("${"):])
		if !is {
			return "", api.ErrValue
		}
		v, is := find(env, name)
		if !is {
			return "", api.ErrVar
		}
		// What is between is taken as bytes, as a rune that is none would not stay as it is.
		out.add(s[end:i])
		out.add(Str(v))
		end = i + len("${") + len(name) + len("}")
	}
	out.add(s[end:])
	return out.text()
}

// inBraces is the part of a name with which a text begins, behind which a } stands.
func inBraces(s string) (name string, is bool) {
	name, _, is = strings.Cut(s, "}")
	if !is || !lexer.Name(name) || strings.Contains(name, ":") {
		return "", false
	}
	return name, true
}

// answer is a text as it grows. Of one that is too long no more is kept, as a few variables may stand for any number of bytes.
type answer struct {
	kept strings.Builder
	long bool
}

func (a *answer) add(s string) {
	a.long = a.long || a.kept.Len()+len(s) > api.MaxText
	if !a.long {
		a.kept.WriteString(s)
	}
}

func (a *answer) text() (string, api.Errno) {
	if a.long {
		return "", api.ErrLong
	}
	return a.kept.String(), api.OK
}
