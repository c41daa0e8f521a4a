package ask

import (
	"fmt"
	"math"
	"slices"
	"sort"
	"strings"
	"sync"
	"testing"

	"lockkeeper/api"
	"lockkeeper/header"
	"lockkeeper/method"
	"lockkeeper/origin"
	"lockkeeper/safe"
	"lockkeeper/target"
)

// list makes headers of names and values by turns.
func list(texts ...string) []api.Header {
	var l []api.Header
	for i := 0; i+1 < len(texts); i += 2 {
		l = append(l, api.Header{Name: texts[i], Value: texts[i+1]})
	}
	return l
}

// base is a valid request that needs no preflight.
func base() api.Request {
	return api.Request{Method: "GET", URL: "http://b/", Origin: "http://a", Mode: api.ModeCors, Class: api.ClassMid}
}

// with is base after change.
func with(change func(*api.Request)) api.Request {
	r := base()
	change(&r)
	return r
}

// same tells whether two requests are equal, field by field.
func same(a, b api.Request) bool {
	return a.Method == b.Method && a.URL == b.URL && a.Origin == b.Origin && a.Mode == b.Mode && a.Creds == b.Creds &&
		slices.Equal(a.Headers, b.Headers) && a.Class == b.Class && a.Timeout == b.Timeout && a.Group == b.Group && a.Signal == b.Signal
}

// brief is v for a message; some of the requests are very long.
func brief(v any) string {
	if r, ok := v.(api.Request); ok {
		v = shortened(r)
	}
	return fmt.Sprintf("%#v", v)
}

func shortened(r api.Request) api.Request {
	cut := func(s string) string { return s[:min(len(s), 200)] }
	r.Method, r.URL, r.Origin = cut(r.Method), cut(r.URL), cut(r.Origin)
	r.Headers = slices.Clone(r.Headers[:min(len(r.Headers), 40)])
	for i, h := range r.Headers {
		r.Headers[i] = api.Header{Name: cut(h.Name), Value: cut(h.Value)}
	}
	return r
}

// told is what all eight calls answer for one request.
type told struct {
	code  api.Errno
	norm  api.Request
	cross bool
	names []string
	needs bool
	key   string
	cell  api.Cell
	want  api.Want
}

func refused(code api.Errno) told { return told{code: code} }

// expect holds each call for r against what is asked, and r against itself: its
// headers are given with capacity to spare, all of which must stay.
func expect(t *testing.T, r api.Request, want told) {
	t.Helper()
	given := append(slices.Clone(r.Headers), list("spare-1", "x", "spare-2", "y")...)
	before := slices.Clone(given)
	r.Headers = given[:len(r.Headers)]
	if got := Check(r); got != want.code {
		t.Errorf("P8.1: Check of %s: %d, not %d", brief(r), got, want.code)
	}
	if got := Norm(r); !same(got, want.norm) {
		t.Errorf("P8.2: Norm of %s: %s, not %s", brief(r), brief(got), brief(want.norm))
	}
	if got := Cross(r); got != want.cross {
		t.Errorf("P8.2: Cross of %s: %v", brief(r), got)
	}
	if got := Names(r); !slices.Equal(got, want.names) {
		t.Errorf("P8.2: Names of %s: %q, not %q", brief(r), got, want.names)
	}
	if got := Needs(r); got != want.needs {
		t.Errorf("P8.2: Needs of %s: %v", brief(r), got)
	}
	if got := Key(r); got != want.key {
		t.Errorf("P8.2: Key of %s: %q, not %q", brief(r), got, want.key)
	}
	if got := Cell(r); got != want.cell {
		t.Errorf("P8.2: Cell of %s: %s, not %s", brief(r), brief(got), brief(want.cell))
	}
	if got := Want(r); got != want.want {
		t.Errorf("P8.2: Want of %s: %s, not %s", brief(r), brief(got), brief(want.want))
	}
	if !slices.Equal(before, given) {
		t.Errorf("R4: %s has changed to %s", brief(api.Request{Headers: before}), brief(api.Request{Headers: given}))
	}
}

func expectCode(t *testing.T, r api.Request, want api.Errno) {
	t.Helper()
	if got := Check(r); got != want {
		t.Errorf("P8.1: Check of %s: %d, not %d", brief(r), got, want)
	}
	if want != api.OK {
		expect(t, r, refused(want))
	}
}

// byRules says the chapter's words once more, by the layers below.
func byRules(r api.Request) told {
	u, urlCode := target.Parse(r.URL)
	o, originCode := origin.Parse(r.Origin)
	cross := origin.Key(u.Origin) != origin.Key(o)
	names := safe.Names(r.Headers...)
	plain := method.Safe(r.Method) && len(names) == 0
	for _, rule := range []struct {
		applies bool
		code    api.Errno
	}{
		{urlCode != api.OK, urlCode},
		{originCode != api.OK, originCode},
		{method.Check(r.Method) != api.OK, method.Check(r.Method)},
		{r.Mode != api.ModeSame && r.Mode != api.ModeNone && r.Mode != api.ModeCors, api.ErrMode},
		{header.Check(r.Headers...) != api.OK, header.Check(r.Headers...)},
		{r.Class < 1 || r.Class > 6, api.ErrClass},
		{r.Timeout > 600, api.ErrTime},
		{r.Group < 0, api.ErrArg},
		{r.Signal < 0, api.ErrArg},
		{r.Mode == api.ModeSame && cross, api.ErrMode},
		{r.Mode == api.ModeNone && !plain, api.ErrMode},
	} {
		if rule.applies {
			return refused(rule.code)
		}
	}
	norm := r
	norm.Method, norm.URL, norm.Origin = method.Norm(r.Method), target.Show(u), origin.Show(o)
	norm.Headers = header.Norm(r.Headers...)
	cell := api.Cell{Origin: norm.Origin, URL: norm.URL, Creds: r.Creds}
	return told{
		norm: norm, cross: cross, names: names,
		needs: r.Mode == api.ModeCors && cross && !plain,
		key:   origin.Key(u.Origin), cell: cell,
		want: api.Want{Cell: cell, Method: norm.Method, Names: strings.Join(names, ",")},
	}
}

func TestExamples(t *testing.T) {
	r := api.Request{Method: "PUT", URL: "http://b/", Origin: "http://a", Mode: api.ModeCors, Class: api.ClassHigh}
	if Check(r) != api.OK || !Needs(r) {
		t.Errorf("P8.2: Needs: %d, %v", Check(r), Needs(r))
	}
	r.Mode = api.ModeNone
	expect(t, r, refused(api.ErrMode))
}

func TestAllOfOne(t *testing.T) {
	r := api.Request{
		Method: "dELETE", URL: "HTTPS://Api.B:443/x/./%2E%2e/y?Q=/../#f", Origin: "HTTP://A.example:8080", Mode: api.ModeCors, Creds: true,
		Headers: list("X-Two", "\t2 \r\n", "Accept", " */* ", "x-ONE", "", "x-two", "3", "Content-Type", "application/json"),
		Class:   api.ClassDefer, Timeout: 77, Group: 5, Signal: 9,
	}
	cell := api.Cell{Origin: "http://a.example:8080", URL: "https://api.b/y?Q=/../", Creds: true}
	expect(t, r, told{
		norm: api.Request{
			Method: "DELETE", URL: cell.URL, Origin: cell.Origin, Mode: api.ModeCors, Creds: true,
			Headers: list("x-two", "2", "accept", "*/*", "x-one", "", "x-two", "3", "content-type", "application/json"),
			Class:   api.ClassDefer, Timeout: 77, Group: 5, Signal: 9,
		},
		cross: true, names: []string{"content-type", "x-one", "x-two"}, needs: true, key: "https://api.b:443", cell: cell,
		want: api.Want{Cell: cell, Method: "DELETE", Names: "content-type,x-one,x-two"},
	})
}

// TestOneWithoutHeaders: nothing is asked for, and Creds is false.
func TestOneWithoutHeaders(t *testing.T) {
	cell := api.Cell{Origin: "http://a", URL: "http://b/"}
	expect(t, base(), told{
		norm: base(), cross: true, key: "http://b:80", cell: cell, want: api.Want{Cell: cell, Method: "GET"},
	})
}

// place is one way that a field of the product below is filled.
type place struct {
	set  func(*api.Request)
	code api.Errno
	norm func(*api.Request)
}

func urls() []place {
	long := "http://b/" + strings.Repeat("a", 512)
	var l []place
	for _, c := range []struct {
		text, norm string
		code       api.Errno
	}{
		{"http://b/", "http://b/", api.OK},
		{"HTTP://A:80?q#f", "http://a/?q", api.OK},
		{"https://a/x/..", "https://a/", api.OK},
		{"", "", api.ErrForm},
		{long, "", api.ErrSize},
	} {
		l = append(l, place{func(r *api.Request) { r.URL = c.text }, c.code, func(r *api.Request) { r.URL = c.norm }})
	}
	return l
}

func origins() []place {
	long := "http://" + strings.Repeat("a", 512)
	var l []place
	for _, c := range []struct {
		text, norm string
		code       api.Errno
	}{
		{"http://a", "http://a", api.OK},
		{"httpS://A:443", "https://a", api.OK},
		{"http://a/", "", api.ErrForm},
		{long, "", api.ErrSize},
	} {
		l = append(l, place{func(r *api.Request) { r.Origin = c.text }, c.code, func(r *api.Request) { r.Origin = c.norm }})
	}
	return l
}

func methods() []place {
	var l []place
	for _, c := range []struct {
		text, norm string
		code       api.Errno
	}{
		{"GET", "GET", api.OK},
		{"post", "POST", api.OK},
		{"Put", "PUT", api.OK},
		{"Patch", "Patch", api.OK},
		{"tRACE", "", api.ErrMethod},
		{"", "", api.ErrMethod},
	} {
		l = append(l, place{func(r *api.Request) { r.Method = c.text }, c.code, func(r *api.Request) { r.Method = c.norm }})
	}
	return l
}

func modes() []place {
	var l []place
	for _, mode := range []int{api.ModeSame, api.ModeNone, api.ModeCors, 0, 4, -1} {
		code := api.OK
		if mode < 1 || mode > 3 {
			code = api.ErrMode
		}
		l = append(l, place{func(r *api.Request) { r.Mode = mode }, code, func(*api.Request) {}})
	}
	return l
}

func lists() []place {
	var l []place
	for _, c := range []struct {
		given, norm []api.Header
		code        api.Errno
	}{
		{nil, nil, api.OK},
		{list("Accept", " a "), list("accept", "a"), api.OK},
		{list("Accept", "a", "X-B", "1", "x-a", "2 "), list("accept", "a", "x-b", "1", "x-a", "2"), api.OK},
		{list("x-a", "1", "", "2"), nil, api.ErrHeader},
		{list("x-a", "1\r\n2"), nil, api.ErrHeader},
		{slices.Repeat(list("", ""), 33), nil, api.ErrSize},
	} {
		l = append(l, place{func(r *api.Request) { r.Headers = c.given }, c.code, func(r *api.Request) { r.Headers = c.norm }})
	}
	return l
}

// rests fill class, timeout, group and signal, some of them wrong two by two.
func rests() []place {
	var l []place
	for _, c := range []struct {
		class         int
		timeout       uint64
		group, signal int
		code          api.Errno
	}{
		{api.ClassBlock, 0, 0, 0, api.OK},
		{api.ClassLazy, 600, 64, math.MaxInt, api.OK},
		{0, 0, 0, 0, api.ErrClass},
		{7, 601, 0, 0, api.ErrClass},
		{-1, 0, -1, -1, api.ErrClass},
		{1, 601, 0, 0, api.ErrTime},
		{1, math.MaxUint64, -1, 0, api.ErrTime},
		{1, 601, 0, -1, api.ErrTime},
		{1, 1, -1, 0, api.ErrArg},
		{6, 1, 0, math.MinInt, api.ErrArg},
		{6, 600, -1, -1, api.ErrArg},
	} {
		set := func(r *api.Request) { r.Class, r.Timeout, r.Group, r.Signal = c.class, c.timeout, c.group, c.signal }
		l = append(l, place{set, c.code, func(*api.Request) {}})
	}
	return l
}

// askedOf works out by hand what is asked of a request whose fields are good one
// by one. In the product, equal origins are those that are written alike.
func askedOf(norm api.Request) told {
	start := map[string]string{"http://b/": "http://b", "http://a/?q": "http://a", "https://a/": "https://a"}[norm.URL]
	port := map[string]string{"http://b": ":80", "http://a": ":80", "https://a": ":443"}[start]
	cross := start != norm.Origin
	var names []string
	if len(norm.Headers) == 3 {
		names = []string{"x-a", "x-b"}
	}
	plain := names == nil && (norm.Method == "GET" || norm.Method == "POST")
	if norm.Mode == 1 && cross || norm.Mode == 2 && !plain {
		return refused(api.ErrMode)
	}
	cell := api.Cell{Origin: norm.Origin, URL: norm.URL, Creds: norm.Creds}
	return told{
		norm: norm, cross: cross, names: names, needs: norm.Mode == 3 && cross && !plain, key: start + port, cell: cell,
		want: api.Want{Cell: cell, Method: norm.Method, Names: strings.Join(names, ",")},
	}
}

// TestProduct takes each field in each of its ways with all the others in each of
// theirs, so that each two faults meet, and the one that is named first is told.
func TestProduct(t *testing.T) {
	fields := [][]place{urls(), origins(), methods(), modes(), lists(), rests()}
	seen := map[api.Errno]int{}
	var walk func(depth int, r, norm api.Request, code api.Errno)
	walk = func(depth int, r, norm api.Request, code api.Errno) {
		if t.Failed() {
			return
		}
		if depth == len(fields) {
			want := refused(code)
			if code == api.OK {
				want = askedOf(norm)
			}
			seen[want.code]++
			expect(t, r, want)
			return
		}
		for _, p := range fields[depth] {
			nextR, nextNorm, nextCode := r, norm, code
			p.set(&nextR)
			p.set(&nextNorm)
			p.norm(&nextNorm)
			if code == api.OK {
				nextCode = p.code
			}
			walk(depth+1, nextR, nextNorm, nextCode)
		}
	}
	for _, creds := range []bool{false, true} {
		walk(0, api.Request{Creds: creds}, api.Request{Creds: creds}, api.OK)
	}
	for _, code := range []api.Errno{api.OK, api.ErrForm, api.ErrSize, api.ErrMethod, api.ErrMode, api.ErrHeader, api.ErrClass, api.ErrTime, api.ErrArg} {
		if seen[code] == 0 {
			t.Errorf("no case of %d", code)
		}
	}
}

func TestURLs(t *testing.T) {
	for _, c := range []struct {
		url       string
		code      api.Errno
		show, key string
	}{
		{"http://b", api.OK, "http://b/", "http://b:80"},
		{"HTTP://B:80", api.OK, "http://b/", "http://b:80"},
		{"https://b:80/", api.OK, "https://b:80/", "https://b:80"},
		{"http://b/%2e/A%41", api.OK, "http://b/A%41", "http://b:80"},
		{"http://b/#", api.OK, "http://b/", "http://b:80"},
		{"http://b/#" + strings.Repeat(" ", 502), api.OK, "http://b/", "http://b:80"},
		{"http://b/#" + strings.Repeat(" ", 503), api.ErrSize, "", ""},
		{"http://b/" + strings.Repeat("a", 503), api.OK, "http://b/" + strings.Repeat("a", 503), "http://b:80"},
		{"http://b/" + strings.Repeat("a", 504), api.ErrSize, "", ""},
		{"http://b?" + strings.Repeat("q", 502), api.OK, "http://b/?" + strings.Repeat("q", 502), "http://b:80"},
		{"http://b?" + strings.Repeat("q", 503), api.ErrSize, "", ""},
		{"http://b:0/", api.ErrForm, "", ""},
		{"http://b:65535/", api.OK, "http://b:65535/", "http://b:65535"},
		{"http://b:65536/", api.ErrForm, "", ""},
		{"ftp://b/", api.ErrForm, "", ""},
		{"http://b/a b", api.ErrForm, "", ""},
		{"//b/", api.ErrForm, "", ""},
		{" http://b/", api.ErrForm, "", ""},
		{"http://\xff/", api.ErrForm, "", ""},
		{"http://b/\x00", api.ErrForm, "", ""},
		{"http://b/\u00e9", api.ErrForm, "", ""},
	} {
		r := with(func(r *api.Request) { r.URL = c.url })
		expectCode(t, r, c.code)
		if Norm(r).URL != c.show || Cell(r).URL != c.show || Key(r) != c.key {
			t.Errorf("P8.2: %.80q: %.80q, %.80q, %q", c.url, Norm(r).URL, Cell(r).URL, Key(r))
		}
	}
}

func TestOrigins(t *testing.T) {
	for _, c := range []struct {
		origin string
		code   api.Errno
		show   string
	}{
		{"http://a:80", api.OK, "http://a"},
		{"https://A.B:80", api.OK, "https://a.b:80"},
		{"http://a:65535", api.OK, "http://a:65535"},
		{"null", api.ErrForm, ""},
		{"", api.ErrForm, ""},
		{"http://a/", api.ErrForm, ""},
		{"http://a#", api.ErrForm, ""},
		{"http://a?", api.ErrForm, ""},
		{"http://a:080", api.ErrForm, ""},
		{"http://" + strings.Repeat("a", 505), api.ErrForm, ""},
		{"http://" + strings.Repeat("a", 506), api.ErrSize, ""},
	} {
		r := with(func(r *api.Request) { r.Origin = c.origin })
		expectCode(t, r, c.code)
		if Norm(r).Origin != c.show || Cell(r).Origin != c.show {
			t.Errorf("P8.2: %.80q: %.80q, %.80q", c.origin, Norm(r).Origin, Cell(r).Origin)
		}
	}
}

// TestCross takes pairs of origins: scheme, host and port count, as they are
// meant and not as they are written.
func TestCross(t *testing.T) {
	for _, c := range []struct {
		url, origin string
		want        bool
	}{
		{"http://a/x?y#z", "http://a", false},
		{"http://a:80/", "http://a", false},
		{"http://a/", "http://a:80", false},
		{"HTTPS://A.B/", "https://a.b:443", false},
		{"http://a:443/", "http://a:443", false},
		{"http://a/", "https://a", true},
		{"http://a:443/", "https://a:443", true},
		{"https://a:80/", "http://a:80", true},
		{"http://a:8080/", "http://a", true},
		{"http://a/", "http://a:81", true},
		{"http://a.b/", "http://a", true},
		{"http://a/", "http://b.a", true},
		{"http://a/http://b", "http://b", true},
	} {
		r := with(func(r *api.Request) { r.URL, r.Origin, r.Method = c.url, c.origin, "PUT" })
		if Cross(r) != c.want || Needs(r) != c.want || Check(r) != api.OK {
			t.Errorf("P8.2: %s for %s: Cross %v, Needs %v", c.url, c.origin, Cross(r), Needs(r))
		}
		r.Mode = api.ModeSame
		if c.want {
			expect(t, r, refused(api.ErrMode))
		} else {
			expectCode(t, r, api.OK)
		}
		r.Mode = api.ModeNone
		expect(t, r, refused(api.ErrMode))
		r.Method = "head"
		if Check(r) != api.OK || Cross(r) != c.want || Needs(r) {
			t.Errorf("P8.2: ModeNone, %s for %s: %d, Cross %v, Needs %v", c.url, c.origin, Check(r), Cross(r), Needs(r))
		}
	}
}

func TestMethods(t *testing.T) {
	for _, c := range []struct {
		method, norm string
		safe         bool
	}{
		{"get", "GET", true}, {"Head", "HEAD", true}, {"pOST", "POST", true},
		{"put", "PUT", false}, {"delete", "DELETE", false}, {"options", "OPTIONS", false},
		{"patch", "patch", false}, {"PATCH", "PATCH", false}, {"GETS", "GETS", false},
		{strings.Repeat("m", 32), strings.Repeat("m", 32), false},
	} {
		r := with(func(r *api.Request) { r.Method = c.method })
		if Check(r) != api.OK || Norm(r).Method != c.norm || Want(r).Method != c.norm || Needs(r) == c.safe {
			t.Errorf("P8.2: %q: %d, %q, %q, %v", c.method, Check(r), Norm(r).Method, Want(r).Method, Needs(r))
		}
		r.Mode = api.ModeNone
		if c.safe {
			expectCode(t, r, api.OK)
		} else {
			expectCode(t, r, api.ErrMode)
		}
	}
	for _, m := range []string{"", " ", "GET ", "a b", "connect", "TRACE", "Track", "caf\u00e9", "\x00", "GET\n", strings.Repeat("m", 33)} {
		expectCode(t, with(func(r *api.Request) { r.Method = m }), api.ErrMethod)
	}
}

func TestModes(t *testing.T) {
	for mode := -5; mode <= 300; mode++ {
		r := with(func(r *api.Request) { r.Mode, r.Origin = mode, "http://b" })
		if mode >= 1 && mode <= 3 {
			expectCode(t, r, api.OK)
		} else {
			expectCode(t, r, api.ErrMode)
		}
	}
	for _, mode := range []int{math.MinInt, math.MaxInt, 1<<32 + 1, 1<<8 + 3} {
		expectCode(t, with(func(r *api.Request) { r.Mode = mode }), api.ErrMode)
	}
}

func TestClasses(t *testing.T) {
	for class := -5; class <= 300; class++ {
		r := with(func(r *api.Request) { r.Class = class })
		if class >= 1 && class <= 6 {
			expectCode(t, r, api.OK)
			if Norm(r).Class != class {
				t.Errorf("P8.2: Norm: class %d", Norm(r).Class)
			}
		} else {
			expectCode(t, r, api.ErrClass)
		}
	}
	for _, class := range []int{math.MinInt, math.MaxInt, 1<<32 + 1} {
		expectCode(t, with(func(r *api.Request) { r.Class = class }), api.ErrClass)
	}
}

func TestTimeouts(t *testing.T) {
	for _, timeout := range []uint64{0, 1, 599, 600, 601, 1 << 32, 1<<32 + 5, 1 << 63, math.MaxUint64} {
		r := with(func(r *api.Request) { r.Timeout = timeout })
		if timeout > 600 {
			expectCode(t, r, api.ErrTime)
			continue
		}
		expectCode(t, r, api.OK)
		if Norm(r).Timeout != timeout {
			t.Errorf("P8.2: Norm: timeout %d", Norm(r).Timeout)
		}
	}
}

func TestGroupsAndSignals(t *testing.T) {
	numbers := []int{math.MinInt, -65, -1, 0, 1, 64, 65, math.MaxInt}
	for _, group := range numbers {
		for _, signal := range numbers {
			r := with(func(r *api.Request) { r.Group, r.Signal = group, signal })
			if group < 0 || signal < 0 {
				expectCode(t, r, api.ErrArg)
				continue
			}
			expectCode(t, r, api.OK)
			if n := Norm(r); n.Group != group || n.Signal != signal {
				t.Errorf("P8.2: Norm: %d, %d", n.Group, n.Signal)
			}
		}
	}
}

func TestHeaders(t *testing.T) {
	full := slices.Repeat(list("Accept", "a"), 32)
	for _, c := range []struct {
		l     []api.Header
		code  api.Errno
		names []string
	}{
		{[]api.Header{}, api.OK, nil},
		{full, api.OK, nil},
		{append(slices.Clone(full), list("accept", "a")...), api.ErrSize, nil},
		{list(strings.Repeat("N", 64), ""), api.OK, []string{strings.Repeat("n", 64)}},
		{list(strings.Repeat("N", 65), ""), api.ErrHeader, nil},
		{list("n", " "+strings.Repeat("v", 4096)+"\n"), api.OK, []string{"n"}},
		{list("n", strings.Repeat("v", 4097)), api.ErrHeader, nil},
		{list("n,m", ""), api.ErrHeader, nil},
		{list("accept", "a\x00"), api.ErrHeader, nil},
		{list("accept", "a\nb"), api.ErrHeader, nil},
		{list("accept", strings.Repeat("a", 128)), api.OK, nil},
		{list("accept", strings.Repeat("a", 129)), api.OK, []string{"accept"}},
		{list("Range", "bytes=1-2", "Content-Language", "de"), api.OK, nil},
		{list("Range", "bytes=2-1"), api.OK, []string{"range"}},
		{list("Content-Type", "TEXT/plain;x"), api.OK, nil},
		{list("Content-Type", "text/html"), api.OK, []string{"content-type"}},
		{list("b", "", "B", "", "a", "", "_", "", "z", "", "-", ""), api.OK, []string{"-", "_", "a", "b", "z"}},
		{slices.Repeat(list("accept", strings.Repeat("a", 128)), 8), api.OK, nil},
		{append(slices.Repeat(list("accept", strings.Repeat("a", 128)), 8), list("Accept-Language", "d")...), api.OK, []string{"accept", "accept-language"}},
	} {
		r := with(func(r *api.Request) { r.Method, r.Headers = "POST", c.l })
		expectCode(t, r, c.code)
		if !slices.Equal(Names(r), c.names) || Needs(r) != (c.names != nil) || Want(r).Names != strings.Join(c.names, ",") {
			t.Errorf("P8.2: %.200q: %q, %v, %q", c.l, Names(r), Needs(r), Want(r).Names)
		}
		r.Mode = api.ModeNone
		if c.code == api.OK && c.names != nil {
			expectCode(t, r, api.ErrMode)
		} else {
			expectCode(t, r, c.code)
		}
		r.Mode, r.Origin = api.ModeSame, "http://b"
		if Check(r) != c.code || Needs(r) || !slices.Equal(Names(r), c.names) {
			t.Errorf("P8.2: %.200q, ModeSame: %d, %v, %q", c.l, Check(r), Needs(r), Names(r))
		}
		r.Mode = api.ModeCors
		if Check(r) != c.code || Needs(r) || !slices.Equal(Names(r), c.names) {
			t.Errorf("P8.2: %.200q, its own origin: %d, %v, %q", c.l, Check(r), Needs(r), Names(r))
		}
	}
}

// TestCredsCountForCellAlone: credentials decide nothing else.
func TestCredsCountForCellAlone(t *testing.T) {
	for _, m := range []string{"GET", "PUT"} {
		without := with(func(r *api.Request) { r.Method = m })
		creds := without
		creds.Creds = true
		if Needs(without) != Needs(creds) || Cell(without).Creds || !Cell(creds).Creds || Want(without).Cell.Creds || !Want(creds).Cell.Creds || Norm(without).Creds || !Norm(creds).Creds {
			t.Errorf("P8.2: %s: Creds", m)
		}
	}
}

// TestNormOfItsOwnAnswer: a request as it is sent stays as it is, and all that is
// asked of it is asked of both.
func TestNormOfItsOwnAnswer(t *testing.T) {
	for _, r := range []api.Request{
		base(),
		with(func(r *api.Request) { r.URL, r.Origin, r.Method = "HTTP://B:80?#", "HTTPS://A:443", "options" }),
		with(func(r *api.Request) { r.Headers = list("X", " 1\t", "x", "", "ACCEPT", "\r\n*") }),
		with(func(r *api.Request) { r.URL = "http://b/a/../" + strings.Repeat("a", 498) }),
		with(func(r *api.Request) { r.URL = "" }),
	} {
		once := Norm(r)
		if Check(r) != api.OK {
			if !same(once, api.Request{}) {
				t.Errorf("P8.2: Norm of %s: %s", brief(r), brief(once))
			}
			continue
		}
		want := byRules(r)
		want.norm = once
		expect(t, once, want)
	}
}

func TestAnswersAreNewMemory(t *testing.T) {
	r := with(func(r *api.Request) { r.Headers = list("b", "1", "a", "2") })
	first, second := Norm(r), Norm(r)
	first.Headers[0], first.Headers[1] = api.Header{}, api.Header{}
	if !slices.Equal(second.Headers, list("b", "1", "a", "2")) || !slices.Equal(r.Headers, second.Headers) {
		t.Errorf("R4: Norm shares memory: %q, %q", second.Headers, r.Headers)
	}
	names, others := Names(r), Names(r)
	names[0], names[1] = "changed", "changed"
	if !slices.Equal(others, []string{"a", "b"}) || !slices.Equal(Names(r), others) {
		t.Errorf("R4: two answers of Names share memory: %q", others)
	}
	kept := Norm(r)
	r.Headers[0].Name = "later"
	if kept.Headers[0].Name != "b" {
		t.Errorf("R4: Norm keeps its argument: %q", kept.Headers)
	}
}

// TestGreatSizes: what is far beyond the limits is refused in a time by its size.
func TestGreatSizes(t *testing.T) {
	long := strings.Repeat("a", 1<<22)
	expectCode(t, with(func(r *api.Request) { r.URL = "http://" + long }), api.ErrSize)
	expectCode(t, with(func(r *api.Request) { r.Origin = "http://" + long }), api.ErrSize)
	expectCode(t, with(func(r *api.Request) { r.Method = long }), api.ErrMethod)
	expectCode(t, with(func(r *api.Request) { r.Headers = list(long, "") }), api.ErrHeader)
	expectCode(t, with(func(r *api.Request) { r.Headers = list("a", long) }), api.ErrHeader)
	expectCode(t, with(func(r *api.Request) { r.Headers = slices.Repeat(list("a", long), 100000) }), api.ErrSize)
	r := with(func(r *api.Request) {
		r.Method = strings.Repeat("m", 32)
		for i := range 32 {
			name := strings.Repeat(string(rune('z'-i%26)), 64-i)
			r.Headers = append(r.Headers, api.Header{Name: name, Value: strings.Repeat("v", 4096)})
		}
	})
	if got := Names(r); Check(r) != api.OK || len(got) != 32 || !sort.StringsAreSorted(got) || strings.Count(Want(r).Names, ",") != 31 {
		t.Errorf("P8.2: 32 headers: %d, %d names", Check(r), len(got))
	}
}

func TestManyAtOnce(t *testing.T) {
	good := with(func(r *api.Request) { r.Method, r.Headers = "put", list("X", "1", "a", "2") })
	bad := with(func(r *api.Request) { r.Class = 0 })
	want := byRules(good)
	var wait sync.WaitGroup
	for range 8 {
		wait.Go(func() {
			for range 100 {
				expect(t, good, want)
				expect(t, bad, refused(api.ErrClass))
			}
		})
	}
	wait.Wait()
}

func FuzzAsk(f *testing.F) {
	f.Add("put", "http://b/x/../y?z#f", "HTTP://a:80", 3, true, "X-One", " 1 ", 2, uint64(600), 3, 4)
	f.Add("get", "http://a", "http://a", 1, false, "accept", "*/*", 6, uint64(0), 0, 0)
	f.Add("trace", "", "null", 0, false, "", "\n", 7, uint64(601), -1, -1)
	f.Fuzz(func(t *testing.T, m, url, from string, mode int, creds bool, name, value string, class int, timeout uint64, group, signal int) {
		r := api.Request{Method: m, URL: url, Origin: from, Mode: mode, Creds: creds, Headers: list(name, value, "Accept", value, name, ""), Class: class, Timeout: timeout, Group: group, Signal: signal}
		expect(t, r, byRules(r))
		for mode := range 5 {
			r.Mode, r.Class, r.Timeout, r.Group, r.Signal = mode, 1+class&3, timeout&511, group&63, signal&63
			expect(t, r, byRules(r))
			r.URL = r.Origin + "/" + url
			expect(t, r, byRules(r))
			r.URL, r.Headers = url, nil
			expect(t, r, byRules(r))
		}
	})
}
