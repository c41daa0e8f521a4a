package cors

import (
	"slices"
	"strconv"
	"strings"
	"sync"
	"testing"

	"lockkeeper/api"
)

const (
	forOrigin = "access-control-allow-origin"
	forCreds  = "access-control-allow-credentials"
	forShown  = "access-control-expose-headers"
)

var plainNames = []string{"cache-control", "content-language", "content-length", "content-type", "expires", "last-modified", "pragma"}

func oneByte(c int) string { return string([]byte{byte(c)}) }

// list makes headers of names and values by turns.
func list(texts ...string) []api.Header {
	var l []api.Header
	for i := 0; i+1 < len(texts); i += 2 {
		l = append(l, api.Header{Name: texts[i], Value: texts[i+1]})
	}
	return l
}

// roomy is l with capacity to spare, filled with what must stay.
func roomy(l []api.Header) []api.Header {
	spare := api.Header{Name: forOrigin, Value: "spare"}
	room := append(slices.Clone(l), spare, spare)
	return room[:len(l)]
}

// small, bare and the functions below them say the chapter's words once more, the slow way.
func small(s string) string {
	out := []byte{}
	for i := range len(s) {
		c := s[i]
		if c >= 'A' && c <= 'Z' {
			c += 32
		}
		out = append(out, c)
	}
	return string(out)
}

func bare(s string) string {
	for s != "" && strings.Contains("\t\n\r ", s[:1]) {
		s = s[1:]
	}
	for s != "" && strings.Contains("\t\n\r ", s[len(s)-1:]) {
		s = s[:len(s)-1]
	}
	return s
}

// slowValues are the bare values of all headers of this name.
func slowValues(l []api.Header, name string) []string {
	var values []string
	for _, h := range l {
		if small(h.Name) == name {
			values = append(values, bare(h.Value))
		}
	}
	return values
}

func slowCheck(origin string, creds bool, l []api.Header) api.Errno {
	values := slowValues(l, forOrigin)
	if len(values) == 0 {
		return api.ErrCors
	}
	v := strings.Join(values, ", ")
	if v == "*" && !creds {
		return api.OK
	}
	if v != origin {
		return api.ErrCors
	}
	if !creds {
		return api.OK
	}
	if trust := slowValues(l, forCreds); len(trust) != 1 || trust[0] != "true" {
		return api.ErrCors
	}
	return api.OK
}

// slowSeen takes the exposing values one by one, for a comma joins them.
func slowSeen(creds bool, l []api.Header) []api.Header {
	var shown []string
	for _, value := range slowValues(l, forShown) {
		for _, part := range strings.Split(value, ",") {
			shown = append(shown, small(bare(part)))
		}
	}
	var seen []api.Header
	for _, h := range l {
		name := small(h.Name)
		all := slices.Contains(shown, "*") && !creds
		named := name != "" && slices.Contains(shown, name)
		if (all || named || slices.Contains(plainNames, name)) && name != "set-cookie" && name != "set-cookie2" {
			seen = append(seen, api.Header{Name: name, Value: bare(h.Value)})
		}
	}
	return seen
}

func expectCheck(t *testing.T, origin string, creds bool, l []api.Header, want api.Errno) {
	t.Helper()
	given := roomy(l)
	before := slices.Clone(given[:cap(given)])
	if e := Check(origin, creds, given...); e != want {
		t.Errorf("P15.1: Check(%.80q, %v, %.200q): %d, not %d", origin, creds, l, e, want)
	}
	if !slices.Equal(before, given[:cap(given)]) {
		t.Errorf("R4: %.200q has become %.200q", before, given[:cap(given)])
	}
}

func expectSeen(t *testing.T, creds bool, l, want []api.Header) {
	t.Helper()
	given := roomy(l)
	before := slices.Clone(given[:cap(given)])
	if got := Seen(creds, given...); !slices.Equal(got, want) {
		t.Errorf("P15.2: Seen(%v, %.200q): %.200q, not %.200q", creds, l, got, want)
	}
	if !slices.Equal(before, given[:cap(given)]) {
		t.Errorf("R4: %.200q has become %.200q", before, given[:cap(given)])
	}
}

func expectByRules(t *testing.T, origin string, l []api.Header) {
	t.Helper()
	for _, creds := range []bool{false, true} {
		expectCheck(t, origin, creds, l, slowCheck(origin, creds, l))
		expectSeen(t, creds, l, slowSeen(creds, l))
	}
}

// lists are all lists of up to size of the given things.
func lists[T any](size int, things ...T) [][]T {
	all, last := [][]T{nil}, [][]T{nil}
	for range size {
		var longer [][]T
		for _, l := range last {
			for _, thing := range things {
				longer = append(longer, append(slices.Clone(l), thing))
			}
		}
		all, last = append(all, longer...), longer
	}
	return all
}

func TestExample(t *testing.T) {
	expectCheck(t, "http://a", true, list("access-control-allow-origin", "*"), api.ErrCors)
}

func TestCheck(t *testing.T) {
	const a = "http://a"
	long := strings.Repeat("A", 1<<16)
	for _, c := range []struct {
		origin        string
		l             []api.Header
		without, with api.Errno
	}{
		{a, nil, api.ErrCors, api.ErrCors},
		{a, list("x", a, forCreds, "true"), api.ErrCors, api.ErrCors},
		{a, list(forOrigin, "*"), api.OK, api.ErrCors},
		{a, list(forOrigin, "*", forCreds, "true"), api.OK, api.ErrCors},
		{a, list(forOrigin, "\t* \r\n"), api.OK, api.ErrCors},
		{a, list(forOrigin, "**"), api.ErrCors, api.ErrCors},
		{a, list(forOrigin, "*", forOrigin, "*"), api.ErrCors, api.ErrCors},
		{a, list(forOrigin, "*", forOrigin, a), api.ErrCors, api.ErrCors},
		{a, list(forOrigin, "*,"), api.ErrCors, api.ErrCors},
		{a, list(forOrigin, a), api.OK, api.ErrCors},
		{a, list(forOrigin, a, forCreds, "true"), api.OK, api.OK},
		{a, list("ACCESS-Control-Allow-ORIGIN", "\n"+a+" ", "Access-Control-ALLOW-Credentials", " true\t"), api.OK, api.OK},
		{a, list(forCreds, "true", "x", "y", forOrigin, a), api.OK, api.OK},
		{a, list(forOrigin, a, forCreds, ""), api.OK, api.ErrCors},
		{a, list(forOrigin, a, forCreds, "True"), api.OK, api.ErrCors},
		{a, list(forOrigin, a, forCreds, "TRUE"), api.OK, api.ErrCors},
		{a, list(forOrigin, a, forCreds, "false"), api.OK, api.ErrCors},
		{a, list(forOrigin, a, forCreds, "*"), api.OK, api.ErrCors},
		{a, list(forOrigin, a, forCreds, "1"), api.OK, api.ErrCors},
		{a, list(forOrigin, a, forCreds, "\"true\""), api.OK, api.ErrCors},
		{a, list(forOrigin, a, forCreds, "true,"), api.OK, api.ErrCors},
		{a, list(forOrigin, a, forCreds, "true", forCreds, "true"), api.OK, api.ErrCors},
		{a, list(forOrigin, a, forCreds, "true", forCreds, ""), api.OK, api.ErrCors},
		{a, list(forOrigin, a, forCreds[1:], "true", forCreds+"x", "true", " "+forCreds, "true"), api.OK, api.ErrCors},
		{a, list(forOrigin, a, forOrigin, a, forCreds, "true"), api.ErrCors, api.ErrCors},
		{a, list(forOrigin, a, forOrigin, "", forCreds, "true"), api.ErrCors, api.ErrCors},
		{a, list(forOrigin, "http://b", forCreds, "true"), api.ErrCors, api.ErrCors},
		{a, list(forOrigin, "http://A", forCreds, "true"), api.ErrCors, api.ErrCors},
		{a, list(forOrigin, "http://a/", forCreds, "true"), api.ErrCors, api.ErrCors},
		{a, list(forOrigin, "http://a:80", forCreds, "true"), api.ErrCors, api.ErrCors},
		{a, list(forOrigin, "https://a", forCreds, "true"), api.ErrCors, api.ErrCors},
		{a, list(forOrigin, "http://", forCreds, "true"), api.ErrCors, api.ErrCors},
		{a, list(forOrigin, "null", forCreds, "true"), api.ErrCors, api.ErrCors},
		{a, list(forOrigin, "", forCreds, "true"), api.ErrCors, api.ErrCors},
		{a, list(forOrigin[1:], a, forOrigin+"s", a, forOrigin+" ", a, forCreds, "true"), api.ErrCors, api.ErrCors},
		{a, list("acce\u017f\u017f-control-allow-origin", a, forCreds, "true"), api.ErrCors, api.ErrCors},
		// Origins that no request has: only the bytes count.
		{"", nil, api.ErrCors, api.ErrCors},
		{"", list(forOrigin, " "), api.OK, api.ErrCors},
		{"", list(forOrigin, "", forCreds, "true"), api.OK, api.OK},
		{"", list(forOrigin, "", forOrigin, ""), api.ErrCors, api.ErrCors},
		{", ", list(forOrigin, "", forOrigin, ""), api.OK, api.ErrCors},
		{"x, y", list(forOrigin, "x", forOrigin, "y", forCreds, "true"), api.OK, api.OK},
		{"x,y", list(forOrigin, "x", forOrigin, "y", forCreds, "true"), api.ErrCors, api.ErrCors},
		{" " + a, list(forOrigin, " "+a, forCreds, "true"), api.ErrCors, api.ErrCors},
		{"*", list(forOrigin, "*"), api.OK, api.ErrCors},
		{"*", list(forOrigin, "*", forCreds, "true"), api.OK, api.OK},
		{"null", list(forOrigin, "null", forCreds, "true"), api.OK, api.OK},
		{long, list(forOrigin, long, forCreds, "true"), api.OK, api.OK},
		{long, list(forOrigin, long[1:]+"B", forCreds, "true"), api.ErrCors, api.ErrCors},
		{"\xff\x00", list(forOrigin, "\xff\x00", forCreds, "true"), api.OK, api.OK},
		{"\xff\x00", list(forOrigin, "\xff", forCreds, "true"), api.ErrCors, api.ErrCors},
	} {
		expectCheck(t, c.origin, false, c.l, c.without)
		expectCheck(t, c.origin, true, c.l, c.with)
		expectByRules(t, c.origin, c.l)
	}
}

// TestCheckEachByte puts each byte beside, into, and in the place of what counts.
func TestCheckEachByte(t *testing.T) {
	const a = "http://a.b"
	for c := range 256 {
		s := oneByte(c)
		for _, text := range []string{s, s + a, a + s, a[:9] + s, "htt" + s + "://a.b", s + "*", "*" + s, "*, " + s} {
			for _, origin := range []string{a, text, small(text), "*", ""} {
				expectByRules(t, origin, list(forOrigin, text))
				expectByRules(t, origin, list(forOrigin, text, forCreds, "true"))
			}
		}
		for _, text := range []string{s, s + "true", "true" + s, "tru" + s, s + "rue", "t" + s + "ue"} {
			expectByRules(t, a, list(forOrigin, a, forCreds, text))
			expectByRules(t, "*", list(forCreds, text, forOrigin, "*"))
		}
	}
}

// TestNamesEachByte puts each byte beside, into, and in the place of a byte of the three names.
func TestNamesEachByte(t *testing.T) {
	for c := range 256 {
		s := oneByte(c)
		for _, name := range []string{forOrigin, forCreds, forShown} {
			for _, other := range []string{s + name, name + s, s + name[1:], name[:len(name)-1] + s, name[:6] + s + name[7:], name[:6] + s + name[6:]} {
				l := list(forOrigin, "a", forCreds, "true", forShown, "x", "x", "1", "y", "2")
				for i := range l {
					if l[i].Name == name {
						l[i].Name = other
					}
				}
				expectByRules(t, "a", l)
				expectByRules(t, "a", append(l, api.Header{Name: other, Value: "y"}))
			}
		}
	}
}

// TestAllShortLists goes through all lists of up to four of a few headers.
func TestAllShortLists(t *testing.T) {
	kinds := list(
		forOrigin, "*", "Access-Control-Allow-Origin", " a", forOrigin, "b",
		forCreds, "true", "ACCESS-CONTROL-ALLOW-CREDENTIALS", "false ",
		forShown, "X-A", "Access-Control-Expose-Headers", ", *,Set-Cookie", forShown, "expires,access-control-expose-headers",
		"x-a", " 1", "Set-Cookie", "c", "Content-TYPE", "t\n")
	for _, l := range lists(4, kinds...) {
		expectByRules(t, "a", l)
	}
}

// TestAllShortValues goes through all values of up to five bytes of a few.
func TestAllShortValues(t *testing.T) {
	for _, pieces := range lists(5, "a", "B", "*", ",", " ", "\x00") {
		value := strings.Join(pieces, "")
		expectByRules(t, "a", list(forOrigin, value, forCreds, "true"))
		expectByRules(t, value, list(forOrigin, value, forCreds, "true"))
		expectByRules(t, "a", list("A", "1", forShown, value, "b", "2", "aB", "3", "*", "4", "", "5", " ", "6", "pragma", "7"))
	}
}

func TestSeen(t *testing.T) {
	l := list("X-A", " 1 ", "Content-Type", "t", "set-cookie", "c", "x-b", "\t2", "x-a", "", "*", "star", "", "bare", forShown, "")
	for _, c := range []struct {
		shown         string
		without, with []api.Header
	}{
		{"", list("content-type", "t"), list("content-type", "t")},
		{", ,", list("content-type", "t"), list("content-type", "t")},
		{"x-a", list("x-a", "1", "content-type", "t", "x-a", ""), list("x-a", "1", "content-type", "t", "x-a", "")},
		{"\tX-B,nothing", list("content-type", "t", "x-b", "2"), list("content-type", "t", "x-b", "2")},
		{"x-B,X-a,x-b", list("x-a", "1", "content-type", "t", "x-b", "2", "x-a", ""), list("x-a", "1", "content-type", "t", "x-b", "2", "x-a", "")},
		{"Content-Type", list("content-type", "t"), list("content-type", "t")},
		{"Set-Cookie, set-cookie", list("content-type", "t"), list("content-type", "t")},
		{"x-a x-b", list("content-type", "t"), list("content-type", "t")},
		{"x-a;x-b", list("content-type", "t"), list("content-type", "t")},
		{"\"x-a\"", list("content-type", "t"), list("content-type", "t")},
		{"x-*", list("content-type", "t"), list("content-type", "t")},
		{"**", list("content-type", "t"), list("content-type", "t")},
		{"*", list("x-a", "1", "content-type", "t", "x-b", "2", "x-a", "", "*", "star", "", "bare", forShown, "*"), list("content-type", "t", "*", "star")},
		{"*, x-b", list("x-a", "1", "content-type", "t", "x-b", "2", "x-a", "", "*", "star", "", "bare", forShown, "*, x-b"), list("content-type", "t", "x-b", "2", "*", "star")},
		{" Access-Control-Expose-Headers", list("content-type", "t", forShown, "Access-Control-Expose-Headers"), list("content-type", "t", forShown, "Access-Control-Expose-Headers")},
	} {
		given := append(l[:len(l)-1:len(l)-1], api.Header{Name: "Access-Control-EXPOSE-Headers", Value: c.shown})
		expectSeen(t, false, given, c.without)
		expectSeen(t, true, given, c.with)
		expectByRules(t, "", given)
	}
	expectSeen(t, false, nil, nil)
	expectSeen(t, true, nil, nil)
	expectSeen(t, false, list(forOrigin, "*", "x", "y"), nil)
}

// TestSeenTakesAllThatExpose: several exposing headers are one list, before and behind what they name.
func TestSeenTakesAllThatExpose(t *testing.T) {
	l := list("b", "1", forShown, "a, ", "a", "2", "c", "3", "Access-Control-Expose-Headers", " B", "d", "4")
	want := list("b", "1", "a", "2")
	expectSeen(t, false, l, want)
	expectSeen(t, true, l, want)
	l = append(l, list(forShown, "*")...)
	expectSeen(t, true, l, want)
	expectSeen(t, false, l, list("b", "1", forShown, "a,", "a", "2", "c", "3", forShown, "B", "d", "4", forShown, "*"))
}

// TestPlainAndHiddenNames takes each of the names that the chapter lists in each way they are written.
func TestPlainAndHiddenNames(t *testing.T) {
	for _, name := range append([]string{"set-cookie", "set-cookie2"}, plainNames...) {
		hidden := strings.HasPrefix(name, "set-")
		for _, written := range []string{name, strings.ToUpper(name), strings.ToUpper(name[:1]) + name[1:]} {
			for _, shown := range []string{"", "x", name, strings.ToUpper(name), "*", "*, " + name} {
				l := list(written, " v ", "other", "w", forShown, shown)
				for _, creds := range []bool{false, true} {
					if slices.Contains(Seen(creds, l...), api.Header{Name: name, Value: "v"}) == hidden {
						t.Errorf("P15.2: Seen(%v, %q): hidden is not %v", creds, l, hidden)
					}
				}
				expectByRules(t, "", l)
			}
		}
		for c := range 256 {
			s := oneByte(c)
			for _, near := range []string{s + name, name + s, s + name[1:], name[:len(name)-1] + s, name[1:], name[:len(name)-1]} {
				expectByRules(t, "", list(near, "v"))
				expectByRules(t, "", list(near, "v", forShown, near))
				expectByRules(t, "", list(near, "v", forShown, "*"))
			}
		}
	}
	for _, name := range []string{"etag", "date", "age", "cookie", "set-cookie3", "content-encoding", "expire", "accept", "location", "content", "vary"} {
		expectSeen(t, false, list(name, "v"), nil)
		expectSeen(t, true, list(name, "v"), nil)
	}
}

func TestAnswersAreNewMemory(t *testing.T) {
	l := list("pragma", "a", "expires", "b", "x", "c", forShown, "*")
	first, second := Seen(false, l...), Seen(false, l...)
	whole := first[:cap(first)]
	for i := range whole {
		whole[i] = api.Header{Name: "changed"}
	}
	if !slices.Equal(second, l) {
		t.Errorf("R4: two answers share memory: %q", second)
	}
	expectSeen(t, false, l, second)
}

// TestGreatLists: lists and values far beyond what an answer may have.
func TestGreatLists(t *testing.T) {
	const size = 200000
	names := make([]string, size)
	var l []api.Header
	for i := range names {
		names[i] = "X-" + strconv.Itoa(i)
		l = append(l, api.Header{Name: names[i], Value: "v"})
	}
	shown := api.Header{Name: forShown, Value: strings.Join(names, ",")}
	for _, creds := range []bool{false, true} {
		seen := Seen(creds, append(l, shown)...)
		if len(seen) != size || seen[size-1] != (api.Header{Name: "x-199999", Value: "v"}) {
			t.Errorf("P15.2: one great exposing value: %d headers", len(seen))
		}
		if seen := Seen(creds, l...); len(seen) != 0 {
			t.Errorf("P15.2: nothing exposed: %d headers", len(seen))
		}
	}
	if seen := Seen(false, append(l, api.Header{Name: forShown, Value: strings.Repeat(",", 1<<20) + "*"})...); len(seen) != size+1 {
		t.Errorf("P15.2: all of a great list: %d headers", len(seen))
	}
	many := make([]api.Header, size)
	for i := range many {
		many[i] = api.Header{Name: forOrigin}
	}
	if e := Check(strings.Repeat(", ", size-1), false, many...); e != api.OK {
		t.Errorf("P15.1: many headers: %d", e)
	}
}

func TestManyAtOnce(t *testing.T) {
	l := list(forOrigin, "http://a", forCreds, "true", "X-A", "1", forShown, "x-a")
	want := list("x-a", "1")
	var wait sync.WaitGroup
	for range 8 {
		wait.Go(func() {
			for range 200 {
				if Check("http://a", true, l...) != api.OK || Check("http://b", false, l...) != api.ErrCors || !slices.Equal(Seen(true, l...), want) {
					t.Error("R5: answers hang on other goroutines")
				}
			}
		})
	}
	wait.Wait()
}

func FuzzCors(f *testing.F) {
	f.Add("http://a", "*", "true", "*", "x-a")
	f.Add("*", "*", " true ", "X-A, set-cookie", "Set-Cookie")
	f.Add("", "", "", ",", "Pragma")
	f.Fuzz(func(t *testing.T, origin, allowed, trust, shown, name string) {
		for _, l := range [][]api.Header{
			list(forOrigin, allowed, forCreds, trust, forShown, shown, name, origin),
			list(name, shown, "Access-Control-Expose-Headers", name, forOrigin, origin, "X-A", trust, forCreds, "true", forShown, shown),
			list(forOrigin, allowed, forOrigin, origin, name, allowed, "set-cookie2", name),
		} {
			expectByRules(t, origin, l)
			expectByRules(t, allowed, l)
		}
	})
}
