package resource

import (
	"regexp"
	"slices"
	"strings"
	"testing"

	"majordomo/api"
)

// param is a parameter as the document's table tells it: a default, or a word for what must be given; and the values it takes.
type param struct {
	name, value string
	must        bool
	takes       func(string) bool
}

// line is a type in a state, with its parameters beside ensure.
type line struct {
	kind, state string
	usual       bool
	params      []param
}

var (
	wordForm = regexp.MustCompile(`^[A-Za-z0-9._/-]*$`)
	pathForm = regexp.MustCompile(`^(/|(/[A-Za-z0-9._-]{1,28}){1,8})$`)
	idForm   = regexp.MustCompile(`^[0-9]{1,5}$`)
	modeForm = regexp.MustCompile(`^0[0-7]{3}$`)
	dotForm  = regexp.MustCompile(`/\.\.?(/|$)`)
	ownForm  = regexp.MustCompile(`^/(tab|run)?(/|$)`)
)

func isKey(s string) bool     { return wordForm.MatchString(s) && len(s) >= 1 && len(s) <= 32 }
func isShell(s string) bool   { return wordForm.MatchString(s) && len(s) <= 64 }
func isVersion(s string) bool { return isShell(s) && s != "" }
func isPath(s string) bool {
	return pathForm.MatchString(s) && len(s) <= 120 && !dotForm.MatchString(s)
}
func isFileTitle(s string) bool { return isPath(s) && !ownForm.MatchString(s) }
func isContent(s string) bool   { return len(s) <= 512 }
func isFlag(s string) bool      { return s == "true" || s == "false" }

// lines is the document's table.
func lines() []line {
	return []line{
		{"file", "file", true, []param{{"content", "", false, isContent}, {"mode", "0644", false, modeForm.MatchString}}},
		{"file", "directory", false, []param{{"mode", "0755", false, modeForm.MatchString}, {"purge", "false", false, isFlag}}},
		{"file", "link", false, []param{{"target", "", true, isPath}}},
		{"file", "absent", false, nil},
		{"account", "present", true, []param{{"group", "users", false, isKey}, {"shell", "/bin/sh", false, isShell}, {"uid", "1000", false, idForm.MatchString}}},
		{"account", "absent", false, nil},
		{"group", "present", true, []param{{"gid", "1000", false, idForm.MatchString}}},
		{"group", "absent", false, nil},
		{"package", "present", true, []param{{"version", "latest", false, isVersion}}},
		{"package", "absent", false, nil},
		{"service", "running", true, nil},
		{"service", "stopped", false, nil},
	}
}

// names is the names of all parameters, and some that are none, by rising bytes.
func names() []string {
	return []string{"", "Mode", "content", "contents", "enabled", "ensure", "gid", "group", "mode", "purge", "shell", "target", "title", "uid", "version", "é"}
}

// modelFull is what Full answers for the parameters of a resource whose type and title are taken.
func modelFull(r api.Resource) (api.Resource, bool) {
	given := map[string]string{}
	last := ""
	for i, p := range r.P {
		if i > 0 && p.Name <= last {
			return api.Resource{}, false
		}
		given[p.Name] = p.Value
		last = p.Name
	}
	state, told := given["ensure"]
	for _, s := range lines() {
		if s.kind == r.Type && (told && s.state == state || !told && s.usual) {
			return modelFill(r, s, given)
		}
	}
	return api.Resource{}, false
}

func modelFill(r api.Resource, s line, given map[string]string) (api.Resource, bool) {
	out := res(r.Type, r.Title, "ensure", s.state)
	delete(given, "ensure")
	for _, p := range s.params {
		v, is := given[p.name]
		if !is {
			v = p.value
		}
		if !is && p.must || is && !p.takes(v) {
			return api.Resource{}, false
		}
		delete(given, p.name)
		out.P = append(out.P, api.Param{Name: p.name, Value: v})
	}
	slices.SortFunc(out.P, func(a, b api.Param) int { return strings.Compare(a.Name, b.Name) })
	return out, len(given) == 0
}

// soundTitle is a title that a type takes.
func soundTitle(kind string) string {
	if kind == "file" {
		return "/srv"
	}
	return "srv"
}

// least is a resource in a state with no more than it must have, and one more parameter at its place.
func least(s line, name, value string) api.Resource {
	r := res(s.kind, soundTitle(s.kind), "ensure", s.state)
	for _, p := range s.params {
		if p.must && p.name != name {
			r.P = append(r.P, api.Param{Name: p.name, Value: "/x"})
		}
	}
	r.P = append(r.P, api.Param{Name: name, Value: value})
	slices.SortStableFunc(r.P, func(a, b api.Param) int { return strings.Compare(a.Name, b.Name) })
	return r
}

// around is texts about some of which a form takes and some not: these, each with one byte less, more or another.
func around(seeds ...string) []string {
	var out []string
	for _, s := range seeds {
		out = append(out, s)
		for at := range len(s) + 1 {
			for c := range 256 {
				b := string([]byte{byte(c)})
				out = append(out, s[:at]+b+s[at:])
				if at < len(s) {
					out = append(out, s[:at]+b+s[at+1:])
				}
			}
			if at < len(s) {
				out = append(out, s[:at]+s[at+1:])
			}
		}
	}
	return out
}

// P6.1: the titles of files.
func TestFileTitles(t *testing.T) {
	deep := strings.Repeat("/abcdefghijklmn", 8)
	for _, s := range []string{"/a", "/a/b", "/etc/motd", "/tabs", "/ta", "/tab.", "/Tab", "/a/tab", "/a/run", "/runs", "/ru", "/rUn", "/...", "/-", "/_", "/1/2/3/4/5/6/7/8", "/" + strings.Repeat("n", 28), deep} {
		wantTaken(t, res("file", s), true, 0)
	}
	for _, s := range []string{"", "/", "a", "a/b", "/a/", "//", "//a", "/a//b", "/.", "/..", "/a/..", "/a/./b", "/a b", "/a:b", "/é", "/a\n", "/a\x00", " /a", "/1/2/3/4/5/6/7/8/9", "/" + strings.Repeat("n", 29), deep + "x", "/tab", "/run", "/tab/", "/tab/x", "/run/x", "/tab/groups", "/run/owed", "/run/x/y", "/tab/..", "/a[b]", strings.Repeat("/a", 100000)} {
		wantNot(t, res("file", s), api.ErrTitle)
	}
	for _, s := range around("/a", "/tab", "/run", "/tab/x", "/run/x", "/a/tab", "/a.b/..x", "/1/2/3/4/5/6/7/8", deep) {
		wantTaken(t, res("file", s), isFileTitle(s), api.ErrTitle)
		wantTaken(t, res("file", s, "ensure", "absent"), isFileTitle(s), api.ErrTitle)
	}
}

// P6.1: the titles of all other types are keys, those of files' own places too.
func TestKeyTitles(t *testing.T) {
	for _, kind := range []string{"account", "group", "package", "service"} {
		for _, s := range []string{"a", "ops", "tab", "run", "/", "/a", "/tab/x", "//", ".", "..", "-", "_", "A9", "lib/x_2.0-1", strings.Repeat("k", 32)} {
			wantTaken(t, res(kind, s), true, 0)
		}
		for _, s := range []string{"", " ", "a b", "a:b", "a\n", "é", "a\x00", "a@b", "a[b", strings.Repeat("k", 33), strings.Repeat("k", 64), strings.Repeat("k", 100000)} {
			wantNot(t, res(kind, s), api.ErrTitle)
		}
		for _, s := range around("ops", strings.Repeat("k", 32)) {
			wantTaken(t, res(kind, s), isKey(s), api.ErrTitle)
			wantTaken(t, res(kind, s, "ensure", lastState(kind)), isKey(s), api.ErrTitle)
		}
	}
}

// lastState is a state of a type, not its default one.
func lastState(kind string) string {
	if kind == "service" {
		return "stopped"
	}
	return "absent"
}

// P6.1: the states of each type, and texts that are none of its states.
func TestStates(t *testing.T) {
	states := []string{"", "file", "directory", "link", "absent", "present", "running", "stopped", "File", "file ", "dir", "true", "false", "absen", "latest", "1", "\x00", strings.Repeat("file", 100000)}
	for _, kind := range []string{"file", "account", "group", "package", "service"} {
		for _, state := range states {
			is := slices.ContainsFunc(lines(), func(s line) bool { return s.kind == kind && s.state == state })
			r := res(kind, soundTitle(kind), "ensure", state)
			if state == "link" {
				r.P = append(r.P, api.Param{Name: "target", Value: "/x"})
			}
			wantTaken(t, r, is, api.ErrParam)
		}
	}
	for _, s := range lines() {
		for _, text := range around(s.state) {
			r := least(s, "ensure", "")
			r.P = slices.DeleteFunc(r.P, func(p api.Param) bool { return p.Value == s.state })
			r.P[0].Value = text
			wantTaken(t, r, text == s.state, api.ErrParam)
		}
	}
}

// P6.1: of all parameters, each state has just its own.
func TestParamsOfStates(t *testing.T) {
	for _, s := range lines() {
		for _, name := range names() {
			if name == "ensure" {
				continue
			}
			at := slices.IndexFunc(s.params, func(p param) bool { return p.name == name })
			for _, v := range []string{"", "0644", "0755", "true", "false", "/x", "1000", "users", "/bin/sh", "latest"} {
				r := least(s, name, v)
				wantTaken(t, r, at >= 0 && s.params[at].takes(v), api.ErrParam)
				if s.usual {
					r.P = slices.DeleteFunc(r.P, func(p api.Param) bool { return p.Name == "ensure" })
					wantTaken(t, r, at >= 0 && s.params[at].takes(v), api.ErrParam)
				}
			}
		}
	}
}

// P6.1: a link has a target.
func TestNoTarget(t *testing.T) {
	wantNot(t, res("file", "/a", "ensure", "link"), api.ErrParam)
	wantNot(t, res("file", "/a", "ensure", "link", "target", ""), api.ErrParam)
	wantNot(t, res("file", "/a", "target", "/b"), api.ErrParam)
	wantNot(t, res("file", "/a", "ensure", "link", "mode", "0644"), api.ErrParam)
	wantNot(t, res("file", "/a", "ensure", "link", "mode", "0644", "target", "/b"), api.ErrParam)
	wantNot(t, res("file", "/a", "ensure", "link", "target", "b"), api.ErrParam)
	for _, s := range []string{"/b", "/", "/tab", "/run", "/tab/x", "/a"} {
		wantTaken(t, res("file", "/a", "ensure", "link", "target", s), true, 0)
	}
}

// P6.1: the values of each parameter, at the edges and one byte away from some.
func TestValues(t *testing.T) {
	seeds := map[string][]string{
		"content": {"", "hello\n", strings.Repeat("x", 512), strings.Repeat("x", 513)},
		"mode":    {"0000", "0777", "0644", "1644", "0800", "644", "00644"},
		"purge":   {"true", "false"},
		"target":  {"/", "/a", "/tab/x", "/a/..", strings.Repeat("/abcdefghijklmn", 8), "/1/2/3/4/5/6/7/8", "/" + strings.Repeat("n", 28)},
		"group":   {"ops", "a/b", strings.Repeat("g", 32)},
		"shell":   {"", "/bin/zsh", strings.Repeat("s", 64)},
		"uid":     {"0", "00000", "99999", "1000"},
		"gid":     {"0", "00000", "99999", "1000"},
		"version": {"latest", "1.2-3", strings.Repeat("v", 64)},
	}
	for _, s := range lines() {
		for _, p := range s.params {
			yes, no := 0, 0
			for _, v := range append(around(seeds[p.name]...), strings.Repeat("0", 100000), "TRUE", "0o64", "-1", "+1", "１", "0644 ") {
				wantTaken(t, least(s, p.name, v), p.takes(v), api.ErrParam)
				if p.takes(v) {
					yes++
				} else {
					no++
				}
			}
			if yes < 2 || no < 2 {
				t.Errorf("%s of %s: %d taken, %d not", p.name, s.kind, yes, no)
			}
		}
	}
}

// P6.1: each wrong value alone.
func TestWrongValues(t *testing.T) {
	for _, c := range []struct{ kind, state, name, value string }{
		{"file", "file", "content", strings.Repeat("x", 513)},
		{"file", "file", "mode", "0800"}, {"file", "file", "mode", "1644"}, {"file", "file", "mode", "644"}, {"file", "file", "mode", "00644"}, {"file", "file", "mode", ""}, {"file", "file", "mode", "064x"}, {"file", "file", "mode", "7777"},
		{"file", "directory", "mode", "0758"}, {"file", "directory", "purge", ""}, {"file", "directory", "purge", "yes"}, {"file", "directory", "purge", "True"},
		{"account", "present", "group", ""}, {"account", "present", "group", "a b"}, {"account", "present", "group", strings.Repeat("g", 33)},
		{"account", "present", "shell", "a b"}, {"account", "present", "shell", strings.Repeat("s", 65)},
		{"account", "present", "uid", ""}, {"account", "present", "uid", "123456"}, {"account", "present", "uid", "1a"}, {"account", "present", "uid", "-1"},
		{"group", "present", "gid", ""}, {"group", "present", "gid", "000000"}, {"group", "present", "gid", "x"},
		{"package", "present", "version", ""}, {"package", "present", "version", "1:2"}, {"package", "present", "version", strings.Repeat("v", 65)},
	} {
		wantNot(t, least(line{kind: c.kind, state: c.state}, c.name, c.value), api.ErrParam)
	}
}

// P6.1: names rise strictly: no two change places, and none stands twice, of the same value or another.
func TestNamesRise(t *testing.T) {
	for _, r := range []api.Resource{
		res("file", "/a", "content", "x", "ensure", "file", "mode", "0600"),
		res("file", "/a", "ensure", "directory", "mode", "0700", "purge", "true"),
		res("file", "/a", "ensure", "link", "target", "/b"),
		res("file", "/a", "ensure", "absent"),
		res("account", "a", "ensure", "present", "group", "g", "shell", "s", "uid", "1"),
		res("group", "a", "ensure", "present", "gid", "1"),
		res("package", "a", "ensure", "present", "version", "1"),
		res("service", "a", "ensure", "stopped"),
	} {
		wantFull(t, r, r)
		for i := range r.P {
			for j := range len(r.P) + 1 {
				twice := r
				twice.P = slices.Insert(slices.Clone(r.P), j, r.P[i])
				wantNot(t, twice, api.ErrParam)
				if j < len(r.P) && j != i {
					turned := r
					turned.P = slices.Clone(r.P)
					turned.P[i], turned.P[j] = turned.P[j], turned.P[i]
					wantNot(t, turned, api.ErrParam)
				}
			}
		}
	}
	wantNot(t, res("file", "/a", "ensure", "absent", "ensure", "file"), api.ErrParam)
	wantNot(t, res("file", "/a", "mode", "0644", "mode", "0600"), api.ErrParam)
	wantNot(t, res("service", "a", "ensure", "running", "ensure", "stopped"), api.ErrParam)
	wantNot(t, res("file", "/a", "mode", "0644", "content", "x"), api.ErrParam)
	wantNot(t, api.Resource{Type: "file", Title: "/a", P: make([]api.Param, 100000)}, api.ErrParam)
}

// P6.1: a content is any bytes.
func TestContent(t *testing.T) {
	all := make([]byte, 512)
	for i := range all {
		all[i] = byte(i)
	}
	for _, s := range []string{string(all), "", "\x00", "\n", "\xff\xfe", "é", "' \" $ { }"} {
		wantFull(t, res("file", "/a", "content", s), res("file", "/a", "content", s, "ensure", "file", "mode", "0644"))
	}
	wantNot(t, res("file", "/a", "content", string(all)+"x"), api.ErrParam)
}
