package flight

import (
	"fmt"
	"math"
	"slices"
	"strings"
	"sync"
	"testing"

	"lockkeeper/allow"
	"lockkeeper/api"
	"lockkeeper/ask"
	"lockkeeper/cors"
)

const (
	last       uint64 = math.MaxUint64
	forOrigin         = "access-control-allow-origin"
	forCreds          = "access-control-allow-credentials"
	forMethods        = "access-control-allow-methods"
	forHeaders        = "access-control-allow-headers"
	forAge            = "access-control-max-age"
)

// list makes headers of names and values by turns.
func list(texts ...string) []api.Header {
	var l []api.Header
	for i := 0; i+1 < len(texts); i += 2 {
		l = append(l, api.Header{Name: texts[i], Value: texts[i+1]})
	}
	return l
}

// put is a request that needs a preflight: another origin, and a method that is
// not safe. Nothing in it is normed.
func put() api.Request {
	return api.Request{
		Method: "put", URL: "HTTP://B:80/./x?y#z", Origin: "HTTPS://A:443", Mode: api.ModeCors, Class: api.ClassLow,
		Timeout: 9, Group: 3, Signal: 4, Headers: list("X-b", " 1 ", "x-A", "2", "Accept", "*/*", "x-B", "3"),
	}
}

// cell is whose preflights are those of put.
func cell() api.Cell { return api.Cell{Origin: "https://a", URL: "http://b/x?y"} }

// with is put after change.
func with(change func(*api.Request)) api.Request {
	r := put()
	change(&r)
	return r
}

// unfit are requests that are not valid or need no preflight.
func unfit() []api.Request {
	return []api.Request{
		{},
		with(func(r *api.Request) { r.Method, r.Headers = "POST", nil }),
		with(func(r *api.Request) { r.Method, r.Headers = "get", list("accept", "x") }),
		with(func(r *api.Request) { r.URL, r.Origin = "http://a/x", "http://a" }),
		with(func(r *api.Request) { r.URL, r.Mode = "https://a/x", api.ModeSame }),
		with(func(r *api.Request) { r.Mode = api.ModeSame }),
		with(func(r *api.Request) { r.Mode = api.ModeNone }),
		with(func(r *api.Request) { r.Method, r.Headers, r.Mode = "GET", nil, api.ModeNone }),
		with(func(r *api.Request) { r.Mode = 0 }),
		with(func(r *api.Request) { r.Mode = 4 }),
		with(func(r *api.Request) { r.URL = "http://" }),
		with(func(r *api.Request) { r.URL = "" }),
		with(func(r *api.Request) { r.Origin = "http://a/" }),
		with(func(r *api.Request) { r.Method = "" }),
		with(func(r *api.Request) { r.Method = "trace" }),
		with(func(r *api.Request) { r.Method = strings.Repeat("m", api.MaxMethod+1) }),
		with(func(r *api.Request) { r.Headers = list("x y", "") }),
		with(func(r *api.Request) { r.Headers = list("x", "a\nb") }),
		with(func(r *api.Request) { r.Headers = make([]api.Header, api.MaxHeaders+1) }),
		with(func(r *api.Request) { r.Class = 0 }),
		with(func(r *api.Request) { r.Class = api.ClassLazy + 1 }),
		with(func(r *api.Request) { r.Timeout = api.MaxTimeout + 1 }),
		with(func(r *api.Request) { r.Group = -1 }),
		with(func(r *api.Request) { r.Signal = -1 }),
	}
}

// fit are requests that need a preflight.
func fit() []api.Request {
	return []api.Request{
		put(),
		with(func(r *api.Request) { r.Headers = nil }),
		with(func(r *api.Request) { r.Headers = list("Accept", "*/*", "content-type", "text/plain") }),
		with(func(r *api.Request) { r.Creds = true }),
		with(func(r *api.Request) { r.Creds, r.Headers = true, list("Authorization", "x") }),
		with(func(r *api.Request) { r.Headers = list("AUTHORIZATION", "x", "a", "") }),
		with(func(r *api.Request) { r.Method = "GET" }),
		with(func(r *api.Request) { r.Method = "head" }),
		with(func(r *api.Request) { r.Method = "Patch" }),
		with(func(r *api.Request) { r.Method = "*" }),
		with(func(r *api.Request) { r.Method = "options" }),
		with(func(r *api.Request) { r.Method, r.Headers = "pOsT", list("content-type", "x/y") }),
		with(func(r *api.Request) { r.Origin = "http://b:81" }),
		with(func(r *api.Request) { r.Class, r.Timeout, r.Group, r.Signal = api.ClassBlock, 0, 0, 0 }),
		with(func(r *api.Request) {
			r.Class, r.Timeout, r.Group, r.Signal = api.ClassLazy, api.MaxTimeout, math.MaxInt, math.MaxInt
		}),
		with(func(r *api.Request) { r.Headers = manyHeaders() }),
	}
}

// manyHeaders are as many headers as there may be, with names as long as they may be.
func manyHeaders() []api.Header {
	var l []api.Header
	for i := range api.MaxHeaders {
		l = append(l, api.Header{Name: fmt.Sprintf("%0*d", api.MaxName, i), Value: "x"})
	}
	return l
}

// roomy is l with capacity to spare, filled with what must stay.
func roomy[T any](l []T, spare T) []T {
	return append(slices.Clone(l), spare, spare)[:len(l)]
}

// whole is l with all its capacity, to be compared later.
func whole[T any](l []T) []T { return slices.Clone(l[:cap(l)]) }

func sameRequest(a, b api.Request) bool {
	return a.Method == b.Method && a.URL == b.URL && a.Origin == b.Origin && a.Mode == b.Mode && a.Creds == b.Creds &&
		slices.Equal(a.Headers, b.Headers) && a.Class == b.Class && a.Timeout == b.Timeout && a.Group == b.Group && a.Signal == b.Signal
}

func sameAllow(a, b api.Allow) bool {
	return slices.Equal(a.Methods, b.Methods) && slices.Equal(a.Headers, b.Headers) && a.Age == b.Age
}

func show(v any) string {
	s := fmt.Sprintf("%+v", v)
	return s[:min(len(s), 600)]
}

// slowBuild, slowJudge and slowGrants say the chapter's words once more, by the
// layers below, from Norm rather than from Want.
func slowBuild(r api.Request) api.Request {
	if ask.Check(r) != api.OK || !ask.Needs(r) {
		return api.Request{}
	}
	n := ask.Norm(r)
	p := n
	p.Method, p.Mode, p.Creds = "OPTIONS", 3, false
	p.Headers = list("accept", "*/*", "access-control-request-method", n.Method)
	if names := ask.Names(r); len(names) > 0 {
		p.Headers = append(p.Headers, list("access-control-request-headers", strings.Join(names, ","))...)
	}
	p.Headers = append(p.Headers, list("origin", n.Origin)...)
	return p
}

func slowJudge(r api.Request, status int, l []api.Header) (api.Allow, api.Errno) {
	n := ask.Norm(r)
	a, readCode := allow.Read(l...)
	uncovered := false
	for _, name := range ask.Names(r) {
		uncovered = uncovered || !allow.Covers(a, name, r.Creds)
	}
	for _, rule := range []struct {
		applies bool
		code    api.Errno
	}{
		{ask.Check(r) != api.OK || !ask.Needs(r), api.ErrArg},
		{cors.Check(n.Origin, n.Creds, l...) != api.OK, cors.Check(n.Origin, n.Creds, l...)},
		{!(status >= 200 && status <= 299), api.ErrStatus},
		{readCode != api.OK, readCode},
		{!allow.Has(a, n.Method, n.Creds), api.ErrMethod},
		{uncovered, api.ErrHeader},
	} {
		if rule.applies {
			return api.Allow{}, rule.code
		}
	}
	return a, api.OK
}

func slowGrants(r api.Request, a api.Allow, now uint64) []api.Entry {
	if ask.Check(r) != api.OK || !ask.Needs(r) || a.Age == 0 {
		return nil
	}
	until := now + a.Age
	if until < now {
		until = last
	}
	methods := a.Methods
	if len(methods) == 0 {
		methods = []string{ask.Norm(r).Method}
	}
	var all []api.Entry
	for i, m := range methods {
		if !slices.Contains(methods[:i], m) {
			all = append(all, api.Entry{Cell: ask.Cell(r), Method: m, Until: until})
		}
	}
	for i, name := range a.Headers {
		if !slices.Contains(a.Headers[:i], name) {
			all = append(all, api.Entry{Cell: ask.Cell(r), Header: name, Until: until})
		}
	}
	return all
}

func expectBuild(t *testing.T, r api.Request, want api.Request) {
	t.Helper()
	r.Headers = roomy(r.Headers, api.Header{Name: "spare"})
	before := whole(r.Headers)
	if got := Build(r); !sameRequest(got, want) {
		t.Errorf("P17.1: Build(%s): %s, not %s", show(r), show(got), show(want))
	}
	if !slices.Equal(before, whole(r.Headers)) {
		t.Errorf("R4: Build: %s has become %s", show(before), show(whole(r.Headers)))
	}
}

func expectJudge(t *testing.T, r api.Request, status int, l []api.Header, want api.Allow, code api.Errno) {
	t.Helper()
	r.Headers, l = roomy(r.Headers, api.Header{Name: "spare"}), roomy(l, api.Header{Name: forMethods, Value: "spare"})
	before, answer := whole(r.Headers), whole(l)
	if got, e := Judge(r, status, l...); !sameAllow(got, want) || e != code {
		t.Errorf("P17.2: Judge(%s, %d, %s): %s, %d, not %s, %d", show(r), status, show(l), show(got), e, show(want), code)
	}
	if !slices.Equal(before, whole(r.Headers)) || !slices.Equal(answer, whole(l)) {
		t.Errorf("R4: Judge: %s, %s have become %s, %s", show(before), show(answer), show(whole(r.Headers)), show(whole(l)))
	}
}

func expectCode(t *testing.T, r api.Request, status int, l []api.Header, code api.Errno) {
	t.Helper()
	want, byRules := slowJudge(r, status, l)
	if code != byRules {
		t.Errorf("the test itself: Judge(%s, %d, %s): %d, but by the rules %d", show(r), status, show(l), code, byRules)
	}
	expectJudge(t, r, status, l, want, code)
}

func expectGrants(t *testing.T, r api.Request, a api.Allow, now uint64, want []api.Entry) {
	t.Helper()
	r.Headers = roomy(r.Headers, api.Header{Name: "spare"})
	a.Methods, a.Headers = roomy(a.Methods, "spare"), roomy(a.Headers, "spare")
	before, methods, names := whole(r.Headers), whole(a.Methods), whole(a.Headers)
	if got := Grants(r, a, now); !slices.Equal(got, want) {
		t.Errorf("P17.3: Grants(%s, %s, %d): %s, not %s", show(r), show(a), now, show(got), show(want))
	}
	if !slices.Equal(before, whole(r.Headers)) || !slices.Equal(methods, whole(a.Methods)) || !slices.Equal(names, whole(a.Headers)) {
		t.Errorf("R4: Grants: %s, %s, %s are no longer what they were", show(before), show(methods), show(names))
	}
}

// expectAll holds the three calls against the slow ones.
func expectAll(t *testing.T, r api.Request, status int, l []api.Header, a api.Allow, now uint64) {
	t.Helper()
	expectBuild(t, r, slowBuild(r))
	want, code := slowJudge(r, status, l)
	expectJudge(t, r, status, l, want, code)
	expectGrants(t, r, a, now, slowGrants(r, a, now))
	expectGrants(t, r, want, now, slowGrants(r, want, now))
}

func TestExamples(t *testing.T) {
	expectJudge(t, put(), 404, list(forOrigin, "*"), api.Allow{}, api.ErrStatus)
}

func TestBuild(t *testing.T) {
	p := api.Request{
		Method: "OPTIONS", URL: "http://b/x?y", Origin: "https://a", Mode: api.ModeCors, Class: api.ClassLow, Timeout: 9, Group: 3, Signal: 4,
		Headers: list("accept", "*/*", "access-control-request-method", "PUT", "access-control-request-headers", "x-a,x-b", "origin", "https://a"),
	}
	bare := p
	bare.Headers = list("accept", "*/*", "access-control-request-method", "PUT", "origin", "https://a")
	one := p
	one.Headers = list("accept", "*/*", "access-control-request-method", "GET", "access-control-request-headers", "x", "origin", "https://a")
	odd := bare
	odd.Headers = list("accept", "*/*", "access-control-request-method", "Patch", "origin", "https://a")
	expectBuild(t, put(), p)
	expectBuild(t, with(func(r *api.Request) { r.Creds = true }), p)
	expectBuild(t, with(func(r *api.Request) { r.Headers = nil }), bare)
	expectBuild(t, with(func(r *api.Request) { r.Headers = list("ACCEPT", "x") }), bare)
	expectBuild(t, with(func(r *api.Request) { r.Method, r.Headers = "get", list("X", "") }), one)
	expectBuild(t, with(func(r *api.Request) { r.Method, r.Headers = "Patch", nil }), odd)
	for class := api.ClassBlock; class <= api.ClassLazy; class++ {
		want := p
		want.Class, want.Timeout, want.Group, want.Signal = class, uint64(class), class*10, class*20
		expectBuild(t, with(func(r *api.Request) {
			r.Class, r.Timeout, r.Group, r.Signal = class, uint64(class), class*10, class*20
		}), want)
	}
}

func TestBuildOfAll(t *testing.T) {
	for _, r := range fit() {
		p := Build(r)
		if ask.Check(p) != api.OK || p.Mode != api.ModeCors || p.Creds {
			t.Errorf("P17.1: Build(%s): %s", show(r), show(p))
		}
		expectBuild(t, r, slowBuild(r))
	}
	for _, r := range unfit() {
		expectBuild(t, r, api.Request{})
	}
}

// lets are headers of an answer that lets put all it asks for.
func lets() []api.Header {
	return list(forOrigin, "https://a", forMethods, "x, PUT", forHeaders, "X-A, x-b", forAge, "7")
}

// without is lets but for one header.
func without(name string) []api.Header {
	return slices.DeleteFunc(lets(), func(h api.Header) bool { return h.Name == name })
}

// more is lets and further headers.
func more(texts ...string) []api.Header { return append(lets(), list(texts...)...) }

func TestJudge(t *testing.T) {
	want := api.Allow{Methods: []string{"x", "PUT"}, Headers: []string{"x-a", "x-b"}, Age: 7}
	expectJudge(t, put(), 200, lets(), want, api.OK)
	expectJudge(t, put(), 204, lets(), want, api.OK)
	expectJudge(t, put(), 299, lets(), want, api.OK)
	want.Age = 5
	expectJudge(t, put(), 200, without(forAge), want, api.OK)
	expectJudge(t, put(), 200, append(without(forAge), list(forAge, "soon")...), want, api.OK)
	want.Age = 7200
	expectJudge(t, put(), 200, append(without(forAge), list(forAge, "7201")...), want, api.OK)
	all := api.Allow{Methods: []string{"*"}, Headers: []string{"*"}, Age: 0}
	expectJudge(t, put(), 200, list(forOrigin, "*", forMethods, "*", forHeaders, "*", forAge, "0"), all, api.OK)
}

func TestJudgeStatus(t *testing.T) {
	for status := -1; status <= 1000; status++ {
		code := api.ErrStatus
		if status/100 == 2 {
			code = api.OK
		}
		expectCode(t, put(), status, lets(), code)
	}
	for _, status := range []int{math.MinInt, -200, math.MaxInt, 1<<32 + 200} {
		expectCode(t, put(), status, lets(), api.ErrStatus)
	}
}

func TestJudgeOrigin(t *testing.T) {
	own := with(func(r *api.Request) { r.Creds = true })
	expectCode(t, put(), 200, nil, api.ErrCors)
	expectCode(t, put(), 200, without(forOrigin), api.ErrCors)
	expectCode(t, put(), 200, append(without(forOrigin), list(forOrigin, "*")...), api.OK)
	expectCode(t, put(), 200, append(without(forOrigin), list(forOrigin, "HTTPS://A:443")...), api.ErrCors)
	expectCode(t, put(), 200, append(without(forOrigin), list(forOrigin, "https://a:443")...), api.ErrCors)
	expectCode(t, put(), 200, append(without(forOrigin), list(forOrigin, "http://b")...), api.ErrCors)
	expectCode(t, put(), 200, more(forOrigin, "https://a"), api.ErrCors)
	expectCode(t, own, 200, lets(), api.ErrCors)
	expectCode(t, own, 200, more(forCreds, "true"), api.OK)
	expectCode(t, own, 200, more(forCreds, "True"), api.ErrCors)
	expectCode(t, own, 200, append(without(forOrigin), list(forOrigin, "*", forCreds, "true")...), api.ErrCors)
}

func TestJudgeMethod(t *testing.T) {
	own := with(func(r *api.Request) { r.Creds = true })
	get := with(func(r *api.Request) { r.Method = "get" })
	patch := with(func(r *api.Request) { r.Method = "Patch" })
	answer := func(methods string) []api.Header {
		return append(without(forMethods), list(forMethods, methods, forCreds, "true")...)
	}
	expectCode(t, put(), 200, without(forMethods), api.ErrMethod)
	expectCode(t, put(), 200, answer("put"), api.ErrMethod)
	expectCode(t, put(), 200, answer("PUTT"), api.ErrMethod)
	expectCode(t, put(), 200, answer("*"), api.OK)
	expectCode(t, own, 200, answer("*"), api.ErrMethod)
	expectCode(t, own, 200, answer("*, PUT"), api.OK)
	expectCode(t, get, 200, without(forMethods), api.OK)
	expectCode(t, get, 200, answer("x"), api.OK)
	expectCode(t, patch, 200, answer("Patch"), api.OK)
	expectCode(t, patch, 200, answer("PATCH"), api.ErrMethod)
	expectCode(t, put(), 200, answer("PUT, a b"), api.ErrMethod)
	expectCode(t, get, 200, answer("a b"), api.ErrMethod)
}

func TestJudgeHeaders(t *testing.T) {
	own := with(func(r *api.Request) { r.Creds = true })
	secret := with(func(r *api.Request) { r.Headers = list("Authorization", "x", "a", "") })
	plain := with(func(r *api.Request) { r.Headers = nil })
	answer := func(names string) []api.Header {
		return append(without(forHeaders), list(forHeaders, names, forCreds, "true")...)
	}
	expectCode(t, put(), 200, without(forHeaders), api.ErrHeader)
	expectCode(t, put(), 200, answer("x-a"), api.ErrHeader)
	expectCode(t, put(), 200, answer("x-b"), api.ErrHeader)
	expectCode(t, put(), 200, answer("X-B,x-A"), api.OK)
	expectCode(t, put(), 200, answer("*"), api.OK)
	expectCode(t, own, 200, answer("*"), api.ErrHeader)
	expectCode(t, own, 200, answer("*, x-a, x-b"), api.OK)
	expectCode(t, secret, 200, answer("*"), api.ErrHeader)
	expectCode(t, secret, 200, answer("*, authorizatioN"), api.OK)
	expectCode(t, plain, 200, without(forHeaders), api.OK)
	expectCode(t, plain, 200, answer("a b"), api.ErrHeader)
	expectCode(t, put(), 200, answer("x-a, x-b, a b"), api.ErrHeader)
}

func TestErrorOrder(t *testing.T) {
	bad := list(forMethods, "a b", forHeaders, "a b")
	badHeaders := list(forOrigin, "*", forMethods, "x", forHeaders, "a b")
	for _, r := range unfit() {
		expectCode(t, r, 404, bad, api.ErrArg)
		expectCode(t, r, 200, lets(), api.ErrArg)
		expectCode(t, r, 200, nil, api.ErrArg)
	}
	expectCode(t, put(), 404, bad, api.ErrCors)
	expectCode(t, put(), 404, append(bad, list(forOrigin, "*")...), api.ErrStatus)
	expectCode(t, put(), 200, append(bad, list(forOrigin, "*")...), api.ErrMethod)
	// what Read refuses comes ahead of a method that is not let
	expectCode(t, put(), 200, badHeaders, api.ErrHeader)
	expectCode(t, put(), 200, list(forOrigin, "*"), api.ErrMethod)
	expectCode(t, put(), 200, list(forOrigin, "*", forMethods, "PUT"), api.ErrHeader)
}

func TestGrants(t *testing.T) {
	m := func(name string, until uint64) api.Entry { return api.Entry{Cell: cell(), Method: name, Until: until} }
	h := func(name string, until uint64) api.Entry { return api.Entry{Cell: cell(), Header: name, Until: until} }
	for _, c := range []struct {
		a    api.Allow
		now  uint64
		want []api.Entry
	}{
		{api.Allow{}, 5, nil},
		{api.Allow{Methods: []string{"PUT"}, Headers: []string{"x"}}, 5, nil},
		{api.Allow{Age: 1}, 5, []api.Entry{m("PUT", 6)}},
		{api.Allow{Methods: []string{}, Headers: []string{}, Age: 1}, 0, []api.Entry{m("PUT", 1)}},
		{api.Allow{Headers: []string{"x"}, Age: 2}, 5, []api.Entry{m("PUT", 7), h("x", 7)}},
		{api.Allow{Methods: []string{"x"}, Age: 2}, 5, []api.Entry{m("x", 7)}},
		{api.Allow{Methods: []string{"z", "PUT", "a"}, Headers: []string{"z", "*", "a"}, Age: 2}, 5, []api.Entry{m("z", 7), m("PUT", 7), m("a", 7), h("z", 7), h("*", 7), h("a", 7)}},
		{api.Allow{Methods: []string{"x", "y", "x", "X", "y"}, Headers: []string{"y", "y", "Y", "x", "y"}, Age: 2}, 5, []api.Entry{m("x", 7), m("y", 7), m("X", 7), h("y", 7), h("Y", 7), h("x", 7)}},
		{api.Allow{Methods: []string{"*"}, Headers: []string{"*"}, Age: 7200}, 1, []api.Entry{m("*", 7201), h("*", 7201)}},
		{api.Allow{Methods: []string{""}, Headers: []string{""}, Age: 1}, 1, []api.Entry{m("", 2), h("", 2)}},
		{api.Allow{Age: 1}, last, []api.Entry{m("PUT", last)}},
		{api.Allow{Age: 2}, last - 1, []api.Entry{m("PUT", last)}},
		{api.Allow{Age: 1}, last - 2, []api.Entry{m("PUT", last-1)}},
		{api.Allow{Age: last}, last, []api.Entry{m("PUT", last)}},
	} {
		expectGrants(t, put(), c.a, c.now, c.want)
		for _, r := range unfit() {
			expectGrants(t, r, c.a, c.now, nil)
		}
		for _, r := range fit() {
			expectGrants(t, r, c.a, c.now, slowGrants(r, c.a, c.now))
		}
	}
	own := api.Cell{Origin: "https://a", URL: "http://b/x?y", Creds: true}
	expectGrants(t, with(func(r *api.Request) { r.Creds = true }), api.Allow{Age: 1}, 2, []api.Entry{{Cell: own, Method: "PUT", Until: 3}})
}

// lists are all lists of up to size of the given texts.
func lists(size int, texts ...string) [][]string {
	all, longest := [][]string{nil}, [][]string{nil}
	for range size {
		var longer [][]string
		for _, l := range longest {
			for _, text := range texts {
				longer = append(longer, append(slices.Clone(l), text))
			}
		}
		all, longest = append(all, longer...), longer
	}
	return all
}

func TestAllShortGrants(t *testing.T) {
	short := lists(3, "PUT", "x", "*")
	for _, methods := range short {
		for _, names := range short {
			a := api.Allow{Methods: methods, Headers: names, Age: 3}
			expectGrants(t, put(), a, 4, slowGrants(put(), a, 4))
		}
	}
}

func TestAllShortAnswers(t *testing.T) {
	values := func(name string, texts ...string) [][]api.Header {
		all := [][]api.Header{nil}
		for _, text := range texts {
			all = append(all, list(name, text))
		}
		return all
	}
	for _, from := range values(forOrigin, "*", "https://a") {
		for _, trust := range values(forCreds, "true") {
			for _, methods := range values(forMethods, "*", "PUT", "a b", "Patch, GET") {
				for _, names := range values(forHeaders, "*", "x-a, X-B", "(", "authorization, a", "x-a") {
					l := slices.Concat(names, from, methods, trust)
					for _, r := range fit() {
						for _, status := range []int{199, 200} {
							want, code := slowJudge(r, status, l)
							expectJudge(t, r, status, l, want, code)
						}
					}
				}
			}
		}
	}
}

func TestEachByte(t *testing.T) {
	for c := range 256 {
		s := string([]byte{byte(c)})
		r := with(func(r *api.Request) { r.Method, r.Headers = s, list("x"+s, s) })
		l := list(forOrigin, "*", forMethods, s, forHeaders, "x"+s, forAge, s)
		expectAll(t, r, 200, l, api.Allow{Methods: []string{s, "", s}, Headers: []string{s, s}, Age: uint64(c)}, uint64(c))
		expectAll(t, put(), 200, l, api.Allow{Methods: []string{s}, Age: 1}, last-uint64(c))
		expectAll(t, with(func(r *api.Request) { r.URL += s; r.Origin += s }), 200, lets(), api.Allow{Age: 1}, 0)
	}
}

// TestGrantedIsLet goes the whole way: what an answer lets is found in its entries.
func TestGrantedIsLet(t *testing.T) {
	for _, r := range fit() {
		names := strings.Join(ask.Names(r), ",")
		l := list(forOrigin, ask.Norm(r).Origin, forCreds, "true", forMethods, ask.Norm(r).Method, forHeaders, names)
		a, code := Judge(r, 200, l...)
		if code != api.OK {
			t.Fatalf("P17.2: Judge(%s): %d", show(r), code)
		}
		want := []api.Entry{{Cell: ask.Cell(r), Method: ask.Norm(r).Method, Until: 15}}
		for _, name := range ask.Names(r) {
			want = append(want, api.Entry{Cell: ask.Cell(r), Header: name, Until: 15})
		}
		expectGrants(t, r, a, 10, want)
	}
}

func TestResultsAreNewMemory(t *testing.T) {
	r := put()
	Build(r).Headers[0].Value = "changed"
	expectBuild(t, r, slowBuild(r))
	first, _ := Judge(r, 200, lets()...)
	second, _ := Judge(r, 200, lets()...)
	first.Methods[0], first.Headers[0] = "changed", "changed"
	if second.Methods[0] != "x" || second.Headers[0] != "x-a" {
		t.Errorf("R4: results of Judge share memory: %s", show(second))
	}
	_ = append(second.Methods, "changed")
	if second.Headers[0] != "x-a" {
		t.Errorf("R4: lists of one result of Judge share memory: %s", show(second))
	}
	a := api.Allow{Methods: []string{"x", "y"}, Headers: []string{"z"}, Age: 1}
	Grants(r, a, 0)[0].Method = "changed"
	if !slices.Equal(a.Methods, []string{"x", "y"}) {
		t.Errorf("R4: Grants shares memory with its argument: %s", show(a))
	}
	expectGrants(t, r, a, 0, slowGrants(r, a, 0))
}

// TestGreat would not end if the time grew faster than the sizes.
func TestGreat(t *testing.T) {
	const size = 200_000
	var texts []string
	var want []api.Entry
	for i := range size {
		texts = append(texts, fmt.Sprint("t", i))
	}
	for _, text := range texts {
		want = append(want, api.Entry{Cell: cell(), Method: text, Until: 3})
	}
	for _, text := range texts {
		want = append(want, api.Entry{Cell: cell(), Header: text, Until: 3})
	}
	twice := slices.Concat(texts, texts)
	if got := Grants(put(), api.Allow{Methods: twice, Headers: twice, Age: 1}, 2); !slices.Equal(got, want) {
		t.Errorf("P17.3: Grants of a great list: %d entries, not %d", len(got), len(want))
	}
	great := strings.Join(texts, ",")
	l := list(forOrigin, "*", forMethods, great+",PUT", forHeaders, great+",x-a,x-b")
	if a, code := Judge(put(), 200, l...); code != api.OK || len(a.Methods) != size+1 || len(a.Headers) != size+2 {
		t.Errorf("P17.2: Judge of great headers: %d, %d methods, %d names", code, len(a.Methods), len(a.Headers))
	}
	many := with(func(r *api.Request) { r.Headers = manyHeaders() })
	if _, code := Judge(many, 200, l...); code != api.ErrHeader {
		t.Errorf("P17.2: Judge of great headers: %d, not %d", code, api.ErrHeader)
	}
}

func TestManyAtOnce(t *testing.T) {
	requests := append(fit(), unfit()...)
	answer := lets()
	a := api.Allow{Methods: []string{"x", "x"}, Headers: []string{"y"}, Age: 3}
	var all sync.WaitGroup
	for range 8 {
		all.Go(func() {
			for _, r := range requests {
				want, code := slowJudge(r, 200, answer)
				if got, e := Judge(r, 200, answer...); e != code || !sameAllow(got, want) {
					t.Errorf("R5: Judge(%s): %s, %d", show(r), show(got), e)
				}
				if !sameRequest(Build(r), slowBuild(r)) || !slices.Equal(Grants(r, a, 4), slowGrants(r, a, 4)) {
					t.Errorf("R5: Build or Grants of %s", show(r))
				}
			}
		})
	}
	all.Wait()
}

func FuzzAll(f *testing.F) {
	f.Add("put", "http://b/", "http://a", "X-b", 3, false, 200, "*", "PUT", "x-b", "7", uint64(5))
	f.Add("get", "http://b/", "http://a", "authorization", 3, true, 204, "http://a", "*", "*", "0", last)
	f.Add("", "", "", "", 0, false, 0, "", "", "", "", uint64(0))
	f.Fuzz(func(t *testing.T, m, url, origin, name string, mode int, creds bool, status int, from, methods, names, age string, now uint64) {
		r := api.Request{Method: m, URL: url, Origin: origin, Mode: mode, Creds: creds, Headers: list(name, age), Class: 1, Timeout: now % 700}
		l := list(forOrigin, from, forMethods, methods, forHeaders, names, forAge, age, forCreds, "true")
		a := api.Allow{Methods: strings.Fields(methods), Headers: strings.Fields(names), Age: now / 2}
		expectAll(t, r, status, l, a, now)
	})
}
