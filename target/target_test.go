package target

import (
	"math"
	"strings"
	"sync"
	"testing"

	"lockkeeper/api"
	"lockkeeper/origin"
)

const (
	pathBytes = "abcdefghijklmnopqrstuvwxyzABCDEFGHIJKLMNOPQRSTUVWXYZ0123456789!$%&'()*+,-./:;=@[]_~"
	moreQuery = "?\\^`{|}"
)

func oneByte(c int) string { return string([]byte{byte(c)}) }

func at(host, path, query string) api.URL {
	return api.URL{Origin: api.Origin{Scheme: "http", Host: host, Port: 80}, Path: path, Query: query}
}

// longHost makes the longest host there is.
func longHost() string {
	return strings.Repeat(strings.Repeat("a", api.MaxLabel)+".", 4)[:api.MaxHost]
}

// cleanByMarks is Clean step by step as the chapter says it, with a mark for each
// segment.
func cleanByMarks(p string) string {
	if p == "" || p[0] != '/' {
		p = "/" + p
	}
	segments := strings.Split(p[1:], "/")
	single := map[string]bool{".": true, "%2e": true, "%2E": true}
	double := map[string]bool{}
	for a := range single {
		for b := range single {
			double[a+b] = true
		}
	}
	removed := make([]bool, len(segments))
	for i, s := range segments {
		removed[i] = single[s] || double[s]
		for before := i - 1; double[s] && before >= 0; before-- {
			if !removed[before] {
				removed[before] = true
				break
			}
		}
	}
	if last := segments[len(segments)-1]; single[last] || double[last] {
		segments, removed = append(segments, ""), append(removed, false)
	}
	out := ""
	for i, s := range segments {
		if !removed[i] {
			out += "/" + s
		}
	}
	if out == "" {
		out = "/"
	}
	return out
}

// eachText calls do with all texts of up to most pieces.
func eachText(pieces []string, most int, do func(string)) {
	texts := []string{""}
	for range most + 1 {
		var longer []string
		for _, s := range texts {
			do(s)
			for _, piece := range pieces {
				longer = append(longer, s+piece)
			}
		}
		texts = longer
	}
}

func TestClean(t *testing.T) {
	for _, c := range []struct{ in, want string }{
		{"/a/./b/../c/..", "/a/"},
		{"/../x", "/x"},
		{"", "/"},
		{"/", "/"},
		{"//", "//"},
		{"///", "///"},
		{"a", "/a"},
		{"a/b", "/a/b"},
		{"/a/b/", "/a/b/"},
		{".", "/"},
		{"..", "/"},
		{"./", "/"},
		{"../", "/"},
		{"/.", "/"},
		{"/..", "/"},
		{"/./", "/"},
		{"/../", "/"},
		{"/./.", "/"},
		{"/../..", "/"},
		{"/a/.", "/a/"},
		{"/a/./", "/a/"},
		{"/a/..", "/"},
		{"/a/../", "/"},
		{"/a/../b", "/b"},
		{"/a/b/..", "/a/"},
		{"/a/b/../..", "/"},
		{"/a/b/../../..", "/"},
		{"/a/b/c/../../d", "/a/d"},
		{"/a/../b/../c", "/c"},
		{"/a/../../b", "/b"},
		{"/./a", "/a"},
		{"//..", "/"},
		{"//.", "//"},
		{"//../a", "/a"},
		{"/a//..", "/a/"},
		{"/a//../b", "/a/b"},
		{"/a//../..", "/"},
		{"/a/./..", "/"},
		{"..//", "//"},
		{"/%2e", "/"},
		{"/%2E/a", "/a"},
		{"/a/%2e%2e", "/"},
		{"/a/%2E%2E/b", "/b"},
		{"/a/%2e%2E/b", "/b"},
		{"/a/%2E%2e/b", "/b"},
		{"/a/.%2e/b", "/b"},
		{"/a/.%2E/b", "/b"},
		{"/a/%2e./b", "/b"},
		{"/a/%2E./b", "/b"},
		{"/a/...", "/a/..."},
		{"/a/..%2e", "/a/..%2e"},
		{"/a/%2e%2e%2e", "/a/%2e%2e%2e"},
		{"/a/%2e%2e.", "/a/%2e%2e."},
		{"/a/.b", "/a/.b"},
		{"/a/..b", "/a/..b"},
		{"/a/b..", "/a/b.."},
		{"/a/. ", "/a/. "},
		{"/a/..\x00", "/a/..\x00"},
		{"/a/%2f..", "/a/%2f.."},
		{"/a%2f../b", "/a%2f../b"},
		{"/a/%252e/b", "/a/%252e/b"},
		{"/a/%2/b", "/a/%2/b"},
		{"/a/2e/b", "/a/2e/b"},
		{"/a/%2d/b", "/a/%2d/b"},
		{"/a\\..\\b", "/a\\..\\b"},
		{"/A/%C3/../%Aa", "/A/%Aa"},
		{"/\xff/\xff/..", "/\xff/"},
		{"?/..", "/"},
		{"/a?b/../c", "/c"},
	} {
		if got := Clean(c.in); got != c.want {
			t.Errorf("P4.1: Clean(%q): %q, not %q", c.in, got, c.want)
		}
	}
}

// TestCleanOfAllShortPaths holds every path of a few pieces against the slow way.
func TestCleanOfAllShortPaths(t *testing.T) {
	check := func(p string) {
		got := Clean(p)
		if want := cleanByMarks(p); got != want {
			t.Errorf("P4.1: Clean(%q): %q, not %q", p, got, want)
		}
		if again := Clean(got); again != got {
			t.Errorf("P4.1: Clean(%q): %q, not itself", got, again)
		}
	}
	eachText([]string{"/", ".", "a"}, 9, check)
	eachText([]string{"/", ".", "%2e", "%2E", "E"}, 6, check)
	eachText([]string{"/", "/a", "/.", "/.."}, 7, check)
}

// TestCleanOfEachByte puts each byte where it could make a dot segment of a text
// that is none.
func TestCleanOfEachByte(t *testing.T) {
	for c := range 256 {
		s := oneByte(c)
		for _, p := range []string{s, "/a/" + s, "/a/." + s, "/a/" + s + ".", "/a/.." + s, "/a/%2" + s, "/a/%" + s + "e", "/a/" + s + "2e", "/a/%2e%2" + s + "/b"} {
			if got, want := Clean(p), cleanByMarks(p); got != want {
				t.Errorf("P4.1: Clean(%q): %q, not %q", p, got, want)
			}
		}
	}
}

// TestCleanOfLongPaths takes time by the length alone, whatever is removed.
func TestCleanOfLongPaths(t *testing.T) {
	const many = 1 << 19
	for _, c := range []struct{ in, want string }{
		{strings.Repeat("/a", many) + strings.Repeat("/..", many), "/"},
		{strings.Repeat("/a", many) + strings.Repeat("/..", many-1), "/a/"},
		{strings.Repeat("/a/..", many), "/"},
		{strings.Repeat("/..", many) + "/x", "/x"},
		{strings.Repeat("/.", many), "/"},
		{strings.Repeat("/", many), strings.Repeat("/", many)},
		{strings.Repeat(".", many), "/" + strings.Repeat(".", many)},
		{"/" + strings.Repeat("a", many) + "/../b", "/b"},
	} {
		if got := Clean(c.in); got != c.want {
			t.Errorf("P4.1: Clean of %d bytes: %d bytes, not %d", len(c.in), len(got), len(c.want))
		}
	}
}

// valid are URLs with the way they are written.
func valid() []struct {
	u    api.URL
	show string
} {
	full := strings.Repeat("a", api.MaxURL-len("http://h/"))
	host := longHost()
	rest := strings.Repeat("b", api.MaxURL-len("https://"+host+":10000/?"))
	return []struct {
		u    api.URL
		show string
	}{
		{at("h", "/", ""), "http://h/"},
		{at("h", "/", "?"), "http://h/?"},
		{at("h", "/", "??"), "http://h/??"},
		{at("h", "//", "?/../."), "http://h//?/../."},
		{at("h", "/a/.b/c.", "?q=1&r=%2e"), "http://h/a/.b/c.?q=1&r=%2e"},
		{at("h", "/x://y", ""), "http://h/x://y"},
		{at("h", "/", "?://"), "http://h/?://"},
		{at("h", "/:80@u", ""), "http://h/:80@u"},
		{at("h", "/"+pathBytes, "?"+pathBytes+moreQuery), "http://h/" + pathBytes + "?" + pathBytes + moreQuery},
		{api.URL{Origin: api.Origin{Scheme: "https", Host: "a.b", Port: 443}, Path: "/A"}, "https://a.b/A"},
		{api.URL{Origin: api.Origin{Scheme: "https", Host: "a.b", Port: 80}, Path: "/A"}, "https://a.b:80/A"},
		{api.URL{Origin: api.Origin{Scheme: "http", Host: "a.b", Port: 65535}, Path: "/", Query: "?x"}, "http://a.b:65535/?x"},
		{at("h", "/"+full, ""), "http://h/" + full},
		{at("h", "/"+full[1:], "?"), "http://h/" + full[1:] + "?"},
		{at("h", "/", "?"+full[1:]), "http://h/?" + full[1:]},
		{api.URL{Origin: api.Origin{Scheme: "https", Host: host, Port: 10000}, Path: "/", Query: "?" + rest}, "https://" + host + ":10000/?" + rest},
	}
}

func TestCheckAndShow(t *testing.T) {
	for _, c := range valid() {
		if !Check(c.u) || Show(c.u) != c.show {
			t.Errorf("P4.2: %v: %v, %q, not %q", c.u, Check(c.u), Show(c.u), c.show)
		}
	}
}

func TestWhatIsNotValid(t *testing.T) {
	full := strings.Repeat("a", api.MaxURL-len("http://h/"))
	for _, u := range []api.URL{
		{},
		{Path: "/"},
		{Path: "/", Query: "?"},
		at("", "/", ""),
		at("H", "/", ""),
		at("-h", "/", ""),
		at("h/", "/", ""),
		at("h.", "/", ""),
		{Origin: api.Origin{Scheme: "HTTP", Host: "h", Port: 80}, Path: "/"},
		{Origin: api.Origin{Scheme: "ftp", Host: "h", Port: 21}, Path: "/"},
		{Origin: api.Origin{Scheme: "http", Host: "h"}, Path: "/"},
		{Origin: api.Origin{Scheme: "http", Host: "h", Port: 65536}, Path: "/"},
		{Origin: api.Origin{Scheme: "http", Host: "h", Port: math.MinInt}, Path: "/"},
		at("h", "", ""),
		at("h", "", "?q"),
		at("h", "a", ""),
		at("h", "a/", ""),
		at("h", " /", ""),
		at("h", "?", ""),
		at("h", "/.", ""),
		at("h", "/..", ""),
		at("h", "/./a", ""),
		at("h", "/a/../b", ""),
		at("h", "/a/.", ""),
		at("h", "/a/%2e/b", ""),
		at("h", "/a/%2E", ""),
		at("h", "/a/.%2E/b", ""),
		at("h", "/%2e%2e", ""),
		at("h", "/a?b", ""),
		at("h", "/a#b", ""),
		at("h", "/a b", ""),
		at("h", "/", "q"),
		at("h", "/", "#"),
		at("h", "/", "/?"),
		at("h", "/", " ?"),
		at("h", "/", "?a b"),
		at("h", "/", "?#"),
		at("h", "/", "?\n"),
		at("h", "/"+full+"a", ""),
		at("h", "/"+full, "?"),
		at("h", "/", "?"+full),
		at("hh", "/"+full, ""),
		{Origin: api.Origin{Scheme: "https", Host: "h", Port: 443}, Path: "/" + full},
		{Origin: api.Origin{Scheme: "http", Host: "h", Port: 8}, Path: "/" + full[1:]},
		at("h", "/"+strings.Repeat("a/", 1<<20), ""),
		at("h", "/", "?"+strings.Repeat("a", 1<<20)),
	} {
		if Check(u) || Show(u) != "" {
			t.Errorf("P4.2: %.80v: %v, %.80q", u, Check(u), Show(u))
		}
	}
}

// TestEachByte puts each byte into a path and into a query, given and read.
func TestEachByte(t *testing.T) {
	for c := range 256 {
		s := oneByte(c)
		inPath := strings.Contains(pathBytes, s)
		inQuery := inPath || strings.Contains(moreQuery, s)
		for _, u := range []api.URL{at("h", "/"+s+"x", ""), at("h", "/x"+s, ""), at("h", "/x"+s+"x", "?q")} {
			if Check(u) != inPath || (Show(u) != "") != inPath {
				t.Errorf("P4.2: the path %q: %v", u.Path, Check(u))
			}
			expectRead(t, u, inPath || s == "?" || s == "#")
		}
		for _, u := range []api.URL{at("h", "/", "?"+s), at("h", "/", "?"+s+"x"), at("h", "/", "?x"+s)} {
			if Check(u) != inQuery || (Show(u) != "") != inQuery {
				t.Errorf("P4.2: the query %q: %v", u.Query, Check(u))
			}
			expectRead(t, u, inQuery || s == "#")
		}
		if first := at("h", "/", s+"x"); Check(first) != (s == "?") {
			t.Errorf("P4.2: the query %q: %v", first.Query, Check(first))
		}
		if first := at("h", s, ""); Check(first) != (s == "/") {
			t.Errorf("P4.2: the path %q: %v", first.Path, Check(first))
		}
	}
}

// expectRead writes u by hand, valid or not, and reads it.
func expectRead(t *testing.T, u api.URL, ok bool) {
	t.Helper()
	s := "http://h" + u.Path + u.Query
	got, e := Parse(s)
	if ok != (e == api.OK) || !ok && (e != api.ErrForm || got != (api.URL{})) {
		t.Errorf("P4.3: Parse(%q): %v, %d", s, got, e)
	}
	if Check(u) && got != u {
		t.Errorf("P4.3: Parse(%q): %v, not %v", s, got, u)
	}
}

func TestParseOfWhatIsShown(t *testing.T) {
	for _, c := range valid() {
		if got, e := Parse(c.show); got != c.u || e != api.OK {
			t.Errorf("P4.3: Parse(%q): %v, %d, not %v", c.show, got, e, c.u)
		}
	}
}

func TestParse(t *testing.T) {
	for _, c := range []struct {
		in   string
		want api.URL
	}{
		{"HTTP://h?q#f", at("h", "/", "?q")},
		{"http://h", at("h", "/", "")},
		{"http://H.eXample:80/A?B", at("h.example", "/A", "?B")},
		{"http://h#", at("h", "/", "")},
		{"http://h#/a?b", at("h", "/", "")},
		{"http://h/#a#b", at("h", "/", "")},
		{"http://h/a# \x00\xff\"<>", at("h", "/a", "")},
		{"http://h?q#?r", at("h", "/", "?q")},
		{"http://h?", at("h", "/", "?")},
		{"http://h?#", at("h", "/", "?")},
		{"http://h?/a", at("h", "/", "?/a")},
		{"http://h??", at("h", "/", "??")},
		{"http://h/?a?b", at("h", "/", "?a?b")},
		{"http://h?x://y", at("h", "/", "?x://y")},
		{"http://h/x://y", at("h", "/x://y", "")},
		{"http://h//", at("h", "//", "")},
		{"http://h/..", at("h", "/", "")},
		{"http://h/a/./b/../c/..", at("h", "/a/", "")},
		{"http://h/a/..?b/../c", at("h", "/", "?b/../c")},
		{"http://h/a/.?.", at("h", "/a/", "?.")},
		{"http://h/.#.", at("h", "/", "")},
		{"http://h/%2E%2e/%41", at("h", "/%41", "")},
	} {
		got, e := Parse(c.in)
		if got != c.want || e != api.OK {
			t.Errorf("P4.3: Parse(%q): %v, %d, not %v", c.in, got, e, c.want)
		}
	}
	got, e := Parse("HTTPS://A.b:8443/c?d#e")
	if got.Origin != (api.Origin{Scheme: "https", Host: "a.b", Port: 8443}) || Show(got) != "https://a.b:8443/c?d" || e != api.OK {
		t.Errorf("P4.3: %v, %d", got, e)
	}
}

func TestParseOfWhatIsNoURL(t *testing.T) {
	for _, s := range []string{
		"", "#", "/", "?", "h", "/a", "//h/a", "h/a", "http", "http:", "http:/", "http:/h", "http:h/a", "http//h",
		"#http://h", "http#://h", "http:#//h", "http:/#/h", "http://#h", "http://h:#80",
		"http://", "http:///", "http:///a", "http://?q", "http://?", "://h", "://h/a", "/://h", "?://h", "a/b://h", "http?://h", "/http://h",
		"ftp://h/", "ws://h/", " http://h/", "http ://h/", "http:// h/", "http://h /",
		"http://h:/", "http://h:0/", "http://h:080/", "http://h:65536/", "http://h:99999/", "http://h:x/", "http://h:80:80/", "http://h:80 /",
		"http://u@h/", "http://u:p@h/", "http://h./", "http://-h/", "http://h\\x/", "http://h\\", "http://[::1]/", "http://h_/", "http://%68/",
		"http://\xc3\xa9/", "http://h&/", "http://http://h",
		"http://h/ ", "http://h/a b", "http://h/^", "http://h/`", "http://h/{}", "http://h/|", "http://h/\\..", "http://h/\"", "http://h/<a>", "http://h/\t", "http://h/\n", "http://h/\x7f", "http://h/\x80", "http://h/\xc3\xa9",
		"http://h/ /..", "http://h/^/../a", "http://h/^?q", "http://h/^#", "http://h/a\x00?",
		"http://h? ", "http://h?\"", "http://h?<", "http://h?>", "http://h?a\x00", "http://h?\x7f", "http://h/?\xff", "http://h?a b#",
	} {
		if got, e := Parse(s); got != (api.URL{}) || e != api.ErrForm {
			t.Errorf("P4.3: Parse(%q): %v, %d", s, got, e)
		}
	}
}

func TestParseOfLongTexts(t *testing.T) {
	fill := func(head string, size int, tail string) string {
		return head + strings.Repeat("a", size-len(head)-len(tail)) + tail
	}
	const most = api.MaxURL
	for _, c := range []struct {
		s    string
		show string
		want api.Errno
	}{
		{fill("http://h/", most, ""), fill("http://h/", most, ""), api.OK},
		{fill("http://h/", most+1, ""), "", api.ErrSize},
		{fill("http://h/#", most, ""), "http://h/", api.OK},
		{fill("http://h/#", most+1, ""), "", api.ErrSize},
		{fill("http://h?", most-1, ""), fill("http://h/?", most, ""), api.OK},
		{fill("http://h?", most, ""), "", api.ErrSize},
		{fill("http://h?", most, " "), "", api.ErrForm},
		{fill("http://h?", most, "#"), fill("http://h/?", most, ""), api.OK},
		{fill("http://h:80?", most, ""), fill("http://h/?", most-2, ""), api.OK},
		{fill("http://h:81?", most, ""), "", api.ErrSize},
		{fill("http://h/", most, "/.."), "http://h/", api.OK},
		{fill("http://h/", most+1, "/.."), "", api.ErrSize},
		{fill("http://h/", most, " "), "", api.ErrForm},
		{fill("http://h/", most+1, " "), "", api.ErrSize},
		{fill("http://h?", most+1, " "), "", api.ErrSize},
		{fill("", most, ""), "", api.ErrForm},
		{fill("", most+1, ""), "", api.ErrSize},
		{fill("#", most+1, ""), "", api.ErrSize},
		{fill("http://", most, ""), "", api.ErrForm},
		{fill("http://", most+1, ""), "", api.ErrSize},
		{fill("http://-/", most+1, ""), "", api.ErrSize},
		{strings.Repeat("http://h/", 1<<20), "", api.ErrSize},
	} {
		got, e := Parse(c.s)
		if e != c.want || Show(got) != c.show || e != api.OK && got != (api.URL{}) {
			t.Errorf("P4.3: Parse of %d bytes, %.20q: %.80v, %d, not %d", len(c.s), c.s, got, e, c.want)
		}
	}
}

// TestParseOfAllShortTexts tells apart what a text can be cut into, at each place.
func TestParseOfAllShortTexts(t *testing.T) {
	eachText([]string{"/", "?", "#", ".", "a", ":", "://"}, 5, func(s string) {
		checkRead(t, "http://h"+s)
		checkRead(t, s+"://h")
	})
}

// checkRead holds Parse against the chapter's six rules, one after the other.
func checkRead(t *testing.T, s string) {
	t.Helper()
	got, e := Parse(s)
	if (e == api.OK) != Check(got) || e != api.OK && got != (api.URL{}) {
		t.Fatalf("P4.3: Parse(%q): %v, %d", s, got, e)
	}
	want, code := readByRules(s)
	if got != want || e != code {
		t.Fatalf("P4.3: Parse(%q): %v, %d, not %v, %d", s, got, e, want, code)
	}
	if again, e := Parse(Show(got)); e == api.OK && again != got {
		t.Fatalf("P4.3: Parse(%q): %v", Show(got), again)
	}
}

func readByRules(s string) (api.URL, api.Errno) {
	if len(s) > api.MaxURL {
		return api.URL{}, api.ErrSize
	}
	s = strings.SplitN(s, "#", 2)[0]
	parts := strings.SplitN(s, "://", 2)
	if len(parts) < 2 {
		return api.URL{}, api.ErrForm
	}
	host := strings.FieldsFunc("."+parts[1], func(r rune) bool { return r == '/' || r == '?' })[0][1:]
	o, e := origin.Parse(parts[0] + "://" + host)
	if e != api.OK {
		return api.URL{}, e
	}
	tail := strings.SplitN(parts[1][len(host):], "?", 2)
	u := api.URL{Origin: o, Path: cleanByMarks(tail[0])}
	if strings.Trim(tail[0], pathBytes) != "" {
		return api.URL{}, api.ErrForm
	}
	if len(tail) == 2 {
		u.Query = "?" + tail[1]
	}
	if strings.Trim(u.Query, pathBytes+moreQuery) != "" {
		return api.URL{}, api.ErrForm
	}
	if len(origin.Show(o)+u.Path+u.Query) > api.MaxURL {
		return api.URL{}, api.ErrSize
	}
	return u, api.OK
}

func TestByManyAtOnce(t *testing.T) {
	var all sync.WaitGroup
	for range 8 {
		all.Go(func() {
			for _, c := range valid() {
				if u, e := Parse(c.show); u != c.u || e != api.OK || Show(u) != c.show || Clean(u.Path) != u.Path {
					t.Errorf("R5: %q by several goroutines: %v, %d", c.show, u, e)
				}
			}
		})
	}
	all.Wait()
}

func FuzzClean(f *testing.F) {
	f.Add("/a/./b/../c/..")
	f.Add("%2E%2e/x")
	f.Fuzz(func(t *testing.T, p string) {
		if got, want := Clean(p), cleanByMarks(p); got != want {
			t.Errorf("P4.1: Clean(%q): %q, not %q", p, got, want)
		}
	})
}

func FuzzParse(f *testing.F) {
	f.Add("HTTP://h?q#f")
	f.Add("https://a.b:8443/a/./b/..?c")
	f.Fuzz(func(t *testing.T, s string) {
		u, e := Parse(s)
		if (e == api.OK) != Check(u) || e != api.OK && u != (api.URL{}) {
			t.Fatalf("P4.3: Parse(%q): %v, %d", s, u, e)
		}
		if again, e := Parse(Show(u)); e == api.OK && again != u {
			t.Errorf("P4.3: Parse(%q): %v", Show(u), again)
		}
	})
}
