package resource

import (
	"math/rand"
	"slices"
	"strings"
	"testing"

	"majordomo/api"
)

// res is a resource; its parameters are written name and value in turn.
func res(kind, title string, words ...string) api.Resource {
	r := api.Resource{Type: kind, Title: title}
	for i := 0; i < len(words); i += 2 {
		r.P = append(r.P, api.Param{Name: words[i], Value: words[i+1]})
	}
	return r
}

func same(a, b api.Resource) bool {
	return a.Type == b.Type && a.Title == b.Title && slices.Equal(a.P, b.P)
}

// wantFull asks for a resource that is taken and made full so, and that stays so.
func wantFull(t *testing.T, r, want api.Resource) {
	t.Helper()
	if e := Check(r); e != api.OK {
		t.Errorf("Check(%q): %d", r, e)
	}
	full, e := Full(r)
	if e != api.OK || !same(full, want) {
		t.Errorf("Full(%q): %q, %d; want %q", r, full, e, want)
	}
	again, e := Full(full)
	if e != api.OK || !same(again, full) || Check(full) != api.OK {
		t.Errorf("Full(%q): %q, %d; it was full", full, again, e)
	}
}

func wantNot(t *testing.T, r api.Resource, want api.Errno) {
	t.Helper()
	if e := Check(r); e != want {
		t.Errorf("Check(%q): %d; want %d", r, e, want)
	}
	if full, e := Full(r); e != want || full.Type != "" || full.Title != "" || full.P != nil {
		t.Errorf("Full(%q): %q, %d; want %d", r, full, e, want)
	}
}

// wantTaken asks whether a resource is taken, and if not, that it is refused so.
func wantTaken(t *testing.T, r api.Resource, taken bool, otherwise api.Errno) {
	t.Helper()
	if !taken {
		wantNot(t, r, otherwise)
	} else if e := Check(r); e != api.OK {
		t.Errorf("Check(%q): %d", r, e)
	}
}

// P6.1, P6.2: the document's examples.
func TestExamples(t *testing.T) {
	wantFull(t, res("file", "/a"), res("file", "/a", "content", "", "ensure", "file", "mode", "0644"))
	wantNot(t, res("file", "/a", "purge", "true"), api.ErrParam)
	wantNot(t, res("file", "/tab/x"), api.ErrTitle)
	wantNot(t, res("disk", "a"), api.ErrType)
	wantNot(t, res("group", "a b"), api.ErrTitle)
	wantNot(t, res("file", "/a", "ensure", "link"), api.ErrParam)
	wantNot(t, res("file", "/a", "ensure", "absent", "mode", "0644"), api.ErrParam)
}

// P6.2: each type in each of its states, with and without the state told, gets all defaults.
func TestDefaults(t *testing.T) {
	for _, want := range []api.Resource{
		res("file", "/a", "content", "", "ensure", "file", "mode", "0644"),
		res("file", "/a", "ensure", "directory", "mode", "0755", "purge", "false"),
		res("file", "/a", "ensure", "absent"),
		res("account", "ann", "ensure", "present", "group", "users", "shell", "/bin/sh", "uid", "1000"),
		res("account", "ann", "ensure", "absent"),
		res("group", "ops", "ensure", "present", "gid", "1000"),
		res("group", "ops", "ensure", "absent"),
		res("package", "vim", "ensure", "present", "version", "latest"),
		res("package", "vim", "ensure", "absent"),
		res("service", "ssh", "ensure", "running"),
		res("service", "ssh", "ensure", "stopped"),
	} {
		state, _ := Get(want, "ensure")
		wantFull(t, res(want.Type, want.Title, "ensure", state), want)
		if state == "file" || state == "present" || state == "running" {
			wantFull(t, res(want.Type, want.Title), want)
			wantFull(t, api.Resource{Type: want.Type, Title: want.Title, P: []api.Param{}}, want)
		}
	}
	wantFull(t, res("file", "/a", "ensure", "link", "target", "/b"), res("file", "/a", "ensure", "link", "target", "/b"))
}

// P6.2: a missing parameter gets its default wherever the given ones stand, and these keep their values.
func TestGivenStay(t *testing.T) {
	wantFull(t, res("file", "/a", "content", "x\n"), res("file", "/a", "content", "x\n", "ensure", "file", "mode", "0644"))
	wantFull(t, res("file", "/a", "mode", "0000"), res("file", "/a", "content", "", "ensure", "file", "mode", "0000"))
	wantFull(t, res("file", "/a", "content", "x", "mode", "0777"), res("file", "/a", "content", "x", "ensure", "file", "mode", "0777"))
	wantFull(t, res("file", "/a", "ensure", "directory", "purge", "true"), res("file", "/a", "ensure", "directory", "mode", "0755", "purge", "true"))
	wantFull(t, res("file", "/a", "ensure", "directory", "mode", "0700"), res("file", "/a", "ensure", "directory", "mode", "0700", "purge", "false"))
	wantFull(t, res("account", "a", "group", "ops"), res("account", "a", "ensure", "present", "group", "ops", "shell", "/bin/sh", "uid", "1000"))
	wantFull(t, res("account", "a", "shell", "zsh"), res("account", "a", "ensure", "present", "group", "users", "shell", "zsh", "uid", "1000"))
	wantFull(t, res("account", "a", "uid", "7"), res("account", "a", "ensure", "present", "group", "users", "shell", "/bin/sh", "uid", "7"))
	wantFull(t, res("account", "a", "group", "ops", "uid", "7"), res("account", "a", "ensure", "present", "group", "ops", "shell", "/bin/sh", "uid", "7"))
	wantFull(t, res("group", "g", "gid", "00012"), res("group", "g", "ensure", "present", "gid", "00012"))
	wantFull(t, res("package", "p", "version", "1.2"), res("package", "p", "ensure", "present", "version", "1.2"))
}

// P6.1: a type that is none is told ahead of all else.
func TestNoTypes(t *testing.T) {
	for _, kind := range []string{"", "disk", "File", "FILE", "files", "fil", "file ", " file", "file\n", "file\x00", "accounts", "Account", "groups", "packages", "services", "facts", "fact", "directory", "link", "class", "present", "user", "servic\xe9", strings.Repeat("file", 100000)} {
		wantNot(t, res(kind, "/a"), api.ErrType)
		wantNot(t, res(kind, "a"), api.ErrType)
		wantNot(t, res(kind, ""), api.ErrType)
		wantNot(t, res(kind, "a b", "ensure", "no"), api.ErrType)
		wantNot(t, res(kind, "a", "ensure", "present"), api.ErrType)
		wantNot(t, res(kind, "a", "x", "", "x", ""), api.ErrType)
	}
	wantNot(t, api.Resource{}, api.ErrType)
}

// P6.1: a title that its type does not take is told ahead of each wrong of the parameters.
func TestTitleAheadOfParams(t *testing.T) {
	for _, r := range []api.Resource{res("file", "/tab"), res("file", "a"), res("account", "a:b"), res("group", ""), res("package", "a b"), res("service", "é")} {
		wantNot(t, r, api.ErrTitle)
		for _, words := range [][]string{{"ensure", "no"}, {"ensure", "link"}, {"no", ""}, {"ensure", "absent", "ensure", "absent"}, {"mode", "0999"}, {"uid", ""}, {"gid", "x"}, {"version", ""}, {"", ""}} {
			wantNot(t, res(r.Type, r.Title, words...), api.ErrTitle)
		}
	}
}

// P6.3: the first one of a name, in a resource of any kind.
func TestGet(t *testing.T) {
	r := res("no type", "", "b", "1", "a", "2", "b", "3", "", "4", "ensure", "")
	for name, want := range map[string]string{"b": "1", "a": "2", "": "4", "ensure": ""} {
		if v, is := Get(r, name); !is || v != want {
			t.Errorf("Get(%q): %q, %v; want %q", name, v, is, want)
		}
	}
	for _, name := range []string{"c", "B", "bb", "b ", "mode", "1", "\x00", strings.Repeat("a", 100000)} {
		if v, is := Get(r, name); is || v != "" {
			t.Errorf("Get(%q): %q, %v", name, v, is)
		}
	}
	// A default is no parameter till it is there.
	for _, r := range []api.Resource{{}, res("file", "/a"), {Type: "file", Title: "/a", P: []api.Param{}}} {
		for _, name := range []string{"", "ensure", "mode"} {
			if v, is := Get(r, name); is || v != "" {
				t.Errorf("Get(%q, %q): %q, %v", r, name, v, is)
			}
		}
	}
	full, _ := Full(res("file", "/a"))
	if v, is := Get(full, "mode"); !is || v != "0644" {
		t.Errorf("%q, %v", v, is)
	}
}

// P6.3: a name is the type and the title, whatever they are.
func TestName(t *testing.T) {
	for want, r := range map[string]api.Resource{
		"file[/a]":     res("file", "/a", "mode", "0644"),
		"service[ssh]": res("service", "ssh"),
		"[]":           {},
		"[a]":          res("", "a"),
		"a[]":          res("a", ""),
		"a[b[c]]":      res("a", "b[c]"),
		"é\x00[\xff ]": res("é\x00", "\xff "),
	} {
		if s := Name(r); s != want {
			t.Errorf("Name(%q): %q; want %q", r, s, want)
		}
	}
}

// P6.3: resources rise by type, then by title, byte by byte; parameters tell nothing.
func TestLess(t *testing.T) {
	rising := []api.Resource{
		{}, res("", "\x00"), res("", "z"), res("A", "z"), res("account", ""), res("account", "a"), res("account", "aa"), res("account", "b"), res("accounts", "a"),
		res("file", ""), res("file", "/"), res("file", "/B"), res("file", "/a"), res("file", "/a-"), res("file", "/a/b"), res("file", "/a0"), res("file", "/b"), res("file", "/é"), res("file", "\xff"),
		res("group", "a"), res("package", "a"), res("service", "A"), res("service", "a"), res("é", ""),
	}
	for i, a := range rising {
		for j, b := range rising {
			if Less(a, b) != (i < j) {
				t.Errorf("Less(%q, %q): %v", a, b, i >= j)
			}
		}
	}
	a, b := res("file", "/a", "mode", "0644"), res("file", "/a", "mode", "0755")
	if Less(a, b) || Less(b, a) {
		t.Error("parameters count")
	}
}

// R7: an argument stays as it is, its spare room too, and what is full shares nothing with it.
func TestShareNothing(t *testing.T) {
	room := []api.Param{{Name: "content", Value: "x"}, {Name: "mode", Value: "0600"}, {Name: "spare", Value: "1"}, {Name: "spare", Value: "2"}}
	was := slices.Clone(room)
	r := api.Resource{Type: "file", Title: "/a", P: room[:2]}
	full, e := Full(r)
	if e != api.OK || Check(r) != api.OK || !slices.Equal(room, was) || len(r.P) != 2 {
		t.Errorf("the argument was changed: %q, %d", room, e)
	}
	want := res("file", "/a", "content", "x", "ensure", "file", "mode", "0600")
	clear(room)
	if !same(full, want) {
		t.Errorf("what is full hangs on the argument: %q", full)
	}
	again, _ := Full(full)
	_ = append(full.P, api.Param{Name: "more"})
	clear(full.P)
	if !same(again, want) {
		t.Errorf("two that are full hang together: %q", again)
	}
	for range 3 {
		if one, _ := Full(res("account", "a")); !same(one, res("account", "a", "ensure", "present", "group", "users", "shell", "/bin/sh", "uid", "1000")) {
			t.Errorf("a call hangs on the one before: %q", one)
		} else {
			clear(one.P)
		}
	}
}

// P6.1, P6.2, P6.4: any parameters of all names and many values, against the document's table by means of its own.
func TestAnyParams(t *testing.T) {
	dice := rand.New(rand.NewSource(6))
	titles := map[string]string{"file": "/a", "account": "a", "group": "a", "package": "a", "service": "a"}
	values := []string{"", "file", "directory", "link", "absent", "present", "running", "stopped", "true", "false", "0644", "0755", "1000", "users", "/bin/sh", "latest", "/", "/x", "no"}
	taken := 0
	for range 50000 {
		s := lines()[dice.Intn(len(lines()))]
		r := api.Resource{Type: s.kind, Title: titles[s.kind]}
		for _, name := range names() {
			at := slices.IndexFunc(s.params, func(p param) bool { return p.name == name })
			if name == "ensure" && dice.Intn(8) > 0 {
				r.P = append(r.P, api.Param{Name: name, Value: s.state})
			} else if at >= 0 && dice.Intn(2) > 0 || dice.Intn(60) == 0 {
				r.P = append(r.P, api.Param{Name: name, Value: values[dice.Intn(len(values))]})
			}
		}
		if len(r.P) > 1 && dice.Intn(10) == 0 {
			i, j := dice.Intn(len(r.P)), dice.Intn(len(r.P))
			r.P[i], r.P[j] = r.P[j], r.P[i]
		}
		want, is := modelFull(r)
		if !is {
			wantNot(t, r, api.ErrParam)
			continue
		}
		taken++
		wantFull(t, r, want)
		for _, p := range r.P {
			if v, is := Get(want, p.Name); !is || v != p.Value {
				t.Errorf("%q lost %q", want, p)
			}
		}
	}
	if taken < 5000 {
		t.Errorf("only %d were taken", taken)
	}
}
