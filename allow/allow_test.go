package allow

import (
	"fmt"
	"math/big"
	"slices"
	"strconv"
	"strings"
	"sync"
	"testing"

	"lockkeeper/api"
)

const (
	tokenBytes = "abcdefghijklmnopqrstuvwxyzABCDEFGHIJKLMNOPQRSTUVWXYZ0123456789!#$%&'*+-.^_\x60|~"
	forMethods = "access-control-allow-methods"
	forHeaders = "access-control-allow-headers"
	forAge     = "access-control-max-age"
)

func oneByte(c int) string { return string([]byte{byte(c)}) }

// list makes headers of names and values by turns.
func list(texts ...string) []api.Header {
	var l []api.Header
	for i := 0; i+1 < len(texts); i += 2 {
		l = append(l, api.Header{Name: texts[i], Value: texts[i+1]})
	}
	return l
}

// roomy is l with capacity to spare, filled with what must stay.
func roomy[T any](l []T, spare T) []T {
	room := append(slices.Clone(l), spare, spare)
	return room[:len(l)]
}

// small, bare and the functions below them say the chapter's words once more, the slow way.
func small(s string) string {
	out := []byte{}
	for i := range len(s) {
		c := s[i]
		if c >= 'A' && c <= 'Z' {
			c += 32
		}
		out = append(out, c)
	}
	return string(out)
}

func bare(s string) string {
	for s != "" && strings.Contains("\t\n\r ", s[:1]) {
		s = s[1:]
	}
	for s != "" && strings.Contains("\t\n\r ", s[len(s)-1:]) {
		s = s[:len(s)-1]
	}
	return s
}

func isToken(s string) bool {
	for i := range len(s) {
		if strings.IndexByte(tokenBytes, s[i]) < 0 {
			return false
		}
	}
	return s != ""
}

// slowValues are the bare values of all headers of this name.
func slowValues(l []api.Header, name string) []string {
	var values []string
	for _, h := range l {
		if small(h.Name) == name {
			values = append(values, bare(h.Value))
		}
	}
	return values
}

// slowElements takes the values one by one, for a comma joins them.
func slowElements(l []api.Header, name string) []string {
	var all []string
	for _, value := range slowValues(l, name) {
		for _, part := range strings.Split(value, ",") {
			if bare(part) != "" {
				all = append(all, bare(part))
			}
		}
	}
	return all
}

func slowAge(l []api.Header) uint64 {
	values := slowValues(l, forAge)
	if len(values) != 1 || values[0] == "" || strings.Trim(values[0], "0123456789") != "" {
		return 5
	}
	n, _ := new(big.Int).SetString(values[0], 10)
	if n.Cmp(big.NewInt(7200)) > 0 {
		return 7200
	}
	return n.Uint64()
}

func slowRead(l []api.Header) (api.Allow, api.Errno) {
	a := api.Allow{Age: slowAge(l)}
	for _, m := range slowElements(l, forMethods) {
		if !isToken(m) {
			return api.Allow{}, api.ErrMethod
		}
		a.Methods = append(a.Methods, m)
	}
	for _, name := range slowElements(l, forHeaders) {
		if !isToken(name) {
			return api.Allow{}, api.ErrHeader
		}
		a.Headers = append(a.Headers, small(name))
	}
	return a, api.OK
}

func slowHas(a api.Allow, m string, creds bool) bool {
	low := small(m)
	if low == "get" || low == "head" || low == "post" {
		return true
	}
	for _, one := range a.Methods {
		if one == m || one == "*" && !creds {
			return true
		}
	}
	return false
}

func slowCovers(a api.Allow, name string, creds bool) bool {
	low := small(name)
	for _, one := range a.Headers {
		if one == low || one == "*" && !creds && low != "authorization" {
			return true
		}
	}
	return false
}

func same(a, b api.Allow) bool {
	return slices.Equal(a.Methods, b.Methods) && slices.Equal(a.Headers, b.Headers) && a.Age == b.Age
}

func show(a api.Allow) string {
	return fmt.Sprintf("%.200q · %.200q · %d", a.Methods, a.Headers, a.Age)
}

// expectRead holds Read of l against what is known of it, and l against itself.
func expectRead(t *testing.T, l []api.Header, want api.Allow, code api.Errno) {
	t.Helper()
	given := roomy(l, api.Header{Name: forMethods, Value: "spare"})
	before := slices.Clone(given[:cap(given)])
	if got, e := Read(given...); !same(got, want) || e != code {
		t.Errorf("P14.1: Read(%.200q): %s, %d, not %s, %d", l, show(got), e, show(want), code)
	}
	if !slices.Equal(before, given[:cap(given)]) {
		t.Errorf("R4: %.200q has become %.200q", before, given[:cap(given)])
	}
}

func expectByRules(t *testing.T, l []api.Header) {
	t.Helper()
	want, code := slowRead(l)
	expectRead(t, l, want, code)
}

// expectLets holds Has of a method and Covers of a name, both s, against the slow ones.
func expectLets(t *testing.T, a api.Allow, s string) {
	t.Helper()
	given := api.Allow{Methods: roomy(a.Methods, s), Headers: roomy(a.Headers, small(s)), Age: a.Age}
	methods, headers := slices.Clone(given.Methods[:cap(given.Methods)]), slices.Clone(given.Headers[:cap(given.Headers)])
	for _, creds := range []bool{false, true} {
		if want := slowHas(a, s, creds); Has(given, s, creds) != want {
			t.Errorf("P14.2: Has(%s, %.80q, %v): not %v", show(a), s, creds, want)
		}
		if want := slowCovers(a, s, creds); Covers(given, s, creds) != want {
			t.Errorf("P14.2: Covers(%s, %.80q, %v): not %v", show(a), s, creds, want)
		}
	}
	if !slices.Equal(methods, given.Methods[:cap(given.Methods)]) || !slices.Equal(headers, given.Headers[:cap(given.Headers)]) {
		t.Errorf("R4: %s has become %s", show(a), show(given))
	}
}

// lists are all lists of up to size of the given things.
func lists[T any](size int, things ...T) [][]T {
	all, last := [][]T{nil}, [][]T{nil}
	for range size {
		var longer [][]T
		for _, l := range last {
			for _, thing := range things {
				longer = append(longer, append(slices.Clone(l), thing))
			}
		}
		all, last = append(all, longer...), longer
	}
	return all
}

func TestExample(t *testing.T) {
	expectRead(t, list("access-control-allow-methods", "PUT, x"), api.Allow{Methods: []string{"PUT", "x"}, Age: 5}, api.OK)
}

func TestRead(t *testing.T) {
	long := strings.Repeat("A", 1<<16)
	for _, c := range []struct {
		l    []api.Header
		want api.Allow
	}{
		{nil, api.Allow{Age: 5}},
		{list("x", "a b", "", "\x00", "allow", "PUT"), api.Allow{Age: 5}},
		{list(forMethods, ""), api.Allow{Age: 5}},
		{list(forMethods, " , ,\t,\r\n", forHeaders, ",,"), api.Allow{Age: 5}},
		{list(forMethods, "put"), api.Allow{Methods: []string{"put"}, Age: 5}},
		{list(forMethods, "PUT,PUT , put,\n*"), api.Allow{Methods: []string{"PUT", "PUT", "put", "*"}, Age: 5}},
		{list(forMethods, "z,a", "x", "y", "ACCESS-Control-Allow-Methods", "m"), api.Allow{Methods: []string{"z", "a", "m"}, Age: 5}},
		{list(forMethods, "TRACE, connect, "+long), api.Allow{Methods: []string{"TRACE", "connect", long}, Age: 5}},
		{list(forHeaders, "X-B, x-a,X-b"), api.Allow{Headers: []string{"x-b", "x-a", "x-b"}, Age: 5}},
		{list(forHeaders, "Z", "Access-Control-Allow-HEADERS", "*, Authorization"), api.Allow{Headers: []string{"z", "*", "authorization"}, Age: 5}},
		{list(forHeaders, long), api.Allow{Headers: []string{strings.ToLower(long)}, Age: 5}},
		{list(forAge, "60", forHeaders, "A", forMethods, "B"), api.Allow{Methods: []string{"B"}, Headers: []string{"a"}, Age: 60}},
		{list("Access-Control-MAX-Age", " 9\n"), api.Allow{Age: 9}},
		{list(" "+forMethods, "PUT", forMethods+" ", "PUT", forMethods+"x", "PUT"), api.Allow{Age: 5}},
		{list(forMethods[1:], "PUT", "access_control_allow_methods", "PUT"), api.Allow{Age: 5}},
		{list("access-control-allow-header", "a", "access-control-allow-method", "b", "access-control-allow-age", "9"), api.Allow{Age: 5}},
		{list("acce\u017f\u017f-control-allow-methods", "PUT", "access-control-max-\u00e5ge", "9"), api.Allow{Age: 5}},
		{list("access-control-request-methods", "PUT", "access-control-expose-headers", "a", "age", "9"), api.Allow{Age: 5}},
	} {
		expectRead(t, c.l, c.want, api.OK)
		expectByRules(t, c.l)
	}
}

func TestReadErrors(t *testing.T) {
	for _, c := range []struct {
		methods, headers string
		code             api.Errno
	}{
		{"a b", "", api.ErrMethod},
		{"PUT, a b", "", api.ErrMethod},
		{"PUT;x", "x", api.ErrMethod},
		{"PUT, \"x\"", "x", api.ErrMethod},
		{"\v", "x", api.ErrMethod},
		{"a/b", "c d", api.ErrMethod},
		{"a,b,c,\u00e9", "c d", api.ErrMethod},
		{"", "c d", api.ErrHeader},
		{"PUT", "x, c d", api.ErrHeader},
		{"PUT", "(x)", api.ErrHeader},
		{"PUT", "x:", api.ErrHeader},
		{"*", "*, \u212a", api.ErrHeader},
		{"PUT", "x\ny", api.ErrHeader},
		{"PUT", "\u00a0x", api.ErrHeader},
		{"PUT", "x, y", api.OK},
	} {
		want, _ := slowRead(list(forMethods, c.methods, forHeaders, c.headers, forAge, "60"))
		for _, l := range [][]api.Header{
			list(forMethods, c.methods, forHeaders, c.headers, forAge, "60"),
			list(forAge, "60", forHeaders, c.headers, forMethods, c.methods),
			list(forHeaders, c.headers, forAge, "60", forMethods, "", forMethods, c.methods),
		} {
			expectRead(t, l, want, c.code)
		}
	}
}

// TestReadEachByte puts each byte alone, ahead of, behind and inside an element.
func TestReadEachByte(t *testing.T) {
	for c := range 256 {
		s := oneByte(c)
		for _, value := range []string{s, s + "A", "A" + s, "A" + s + "B", "x, " + s + ", y", "x," + s + "y"} {
			expectByRules(t, list(forMethods, value))
			expectByRules(t, list(forHeaders, value))
			expectByRules(t, list(forMethods, "PUT", forHeaders, "x", forMethods, value, forHeaders, value))
		}
		for _, value := range []string{s, s + "7", "7" + s, "7" + s + "7"} {
			expectByRules(t, list(forAge, value))
		}
	}
}

// TestReadEachPlace puts one element that is no token at each place of a list.
func TestReadEachPlace(t *testing.T) {
	for _, wrong := range []string{"a b", "\x00", "a/", "\u00e9"} {
		for i := range 40 {
			elements := slices.Repeat([]string{"a"}, 40)
			elements[i] = wrong
			expectRead(t, list(forMethods, strings.Join(elements, ",")), api.Allow{}, api.ErrMethod)
			expectRead(t, list(forHeaders, strings.Join(elements, " , ")), api.Allow{}, api.ErrHeader)
			var one []api.Header
			for _, element := range elements {
				one = append(one, list(forHeaders, element)...)
			}
			expectRead(t, one, api.Allow{}, api.ErrHeader)
		}
	}
}

func TestAges(t *testing.T) {
	for _, c := range []struct {
		value string
		want  uint64
	}{
		{"0", 0}, {"1", 1}, {"4", 4}, {"5", 5}, {"6", 6}, {"600", 600},
		{"7199", 7199}, {"7200", 7200}, {"7201", 7200}, {"7206", 7200}, {"10000", 7200}, {"65536", 7200},
		{"4294967295", 7200}, {"4294967296", 7200}, {"4294967297", 7200},
		{"18446744073709551615", 7200}, {"18446744073709551616", 7200}, {"18446744073709551617", 7200},
		{"9223372036854775807", 7200}, {"9223372036854775808", 7200}, {"99999999999999999999", 7200},
		{strings.Repeat("9", 5000), 7200}, {strings.Repeat("0", 5000), 0}, {strings.Repeat("0", 5000) + "8", 8},
		{"00", 0}, {"007", 7}, {"007200", 7200}, {"007201", 7200},
		{" 9 ", 9}, {"\t\r\n9\n\r\t", 9},
		{"", 5}, {" ", 5}, {"-1", 5}, {"-0", 5}, {"+9", 5}, {"9.0", 5}, {"9s", 5}, {"0x9", 5}, {"1e3", 5}, {"1_000", 5}, {"9 9", 5},
		{"9,", 5}, {",9", 5}, {"9,9", 5}, {"\v9", 5}, {"9\x00", 5}, {"\u0669", 5}, {"\uff19", 5}, {"\"9\"", 5}, {"9;x", 5}, {"a", 5}, {"*", 5},
	} {
		expectRead(t, list(forAge, c.value), api.Allow{Age: c.want}, api.OK)
		expectRead(t, list("x", "3", forAge, c.value, "age", "4"), api.Allow{Age: c.want}, api.OK)
		expectRead(t, list(forAge, c.value, forAge, "9"), api.Allow{Age: 5}, api.OK)
		expectRead(t, list(forAge, "9", forAge, c.value), api.Allow{Age: 5}, api.OK)
		expectRead(t, list(forAge, c.value, forMethods, "a b"), api.Allow{}, api.ErrMethod)
		expectRead(t, list(forAge, c.value, forHeaders, "a b"), api.Allow{}, api.ErrHeader)
	}
	for n := range 7500 {
		expectRead(t, list(forAge, strconv.Itoa(n)), api.Allow{Age: uint64(min(n, 7200))}, api.OK)
	}
}

// TestAllShortLists goes through all lists of up to four of a few headers.
func TestAllShortLists(t *testing.T) {
	kinds := list(
		forMethods, "PUT", forMethods, " x ,*", "Access-Control-Allow-Methods", "a b", forMethods, "",
		forHeaders, "X-A", "ACCESS-CONTROL-ALLOW-HEADERS", ",c d", forHeaders, " *",
		forAge, "7", "Access-Control-Max-Age", "", "x", "a b")
	for _, l := range lists(4, kinds...) {
		expectByRules(t, l)
	}
}

// TestAllShortValues goes through all values of up to five bytes of a few.
func TestAllShortValues(t *testing.T) {
	for _, pieces := range lists(5, "a", "B", "*", ",", " ", "/", "7") {
		value := strings.Join(pieces, "")
		expectByRules(t, list(forMethods, value))
		expectByRules(t, list(forHeaders, value))
		expectByRules(t, list(forAge, value))
	}
}

func TestHas(t *testing.T) {
	two := api.Allow{Methods: []string{"PUT", "x"}, Headers: []string{"DELETE", "*"}}
	star := api.Allow{Methods: []string{"*"}, Headers: []string{"DELETE"}}
	for _, c := range []struct {
		a             api.Allow
		m             string
		without, with bool
	}{
		{two, "PUT", true, true}, {two, "x", true, true},
		{two, "put", false, false}, {two, "Put", false, false}, {two, "X", false, false}, {two, "xx", false, false}, {two, "", false, false},
		{two, "PUT ", false, false}, {two, "PUT, x", false, false}, {two, "DELETE", false, false}, {two, "*", false, false},
		{two, "get", true, true}, {two, "HEAD", true, true}, {two, "pOsT", true, true},
		{star, "PUT", true, false}, {star, "patch", true, false}, {star, "", true, false}, {star, "TRACE", true, false}, {star, "a b", true, false},
		{star, "*", true, true}, {star, "**", true, false}, {star, "Get", true, true},
		{api.Allow{}, "GET", true, true}, {api.Allow{}, "head", true, true}, {api.Allow{}, "Post", true, true},
		{api.Allow{}, "GETS", false, false}, {api.Allow{}, " GET", false, false}, {api.Allow{}, "po\u017ft", false, false}, {api.Allow{}, "OPTIONS", false, false},
		{api.Allow{}, "PUT", false, false}, {api.Allow{}, "*", false, false}, {api.Allow{}, "", false, false},
		{api.Allow{Methods: []string{"PUT", "*"}}, "DELETE", true, false}, {api.Allow{Methods: []string{"PUT", "*"}}, "PUT", true, true},
		{api.Allow{Methods: []string{" *", "**"}}, "PUT", false, false},
		{api.Allow{Methods: []string{""}}, "", true, true}, {api.Allow{Methods: []string{"a b", "\xff"}}, "\xff", true, true},
	} {
		if Has(c.a, c.m, false) != c.without || Has(c.a, c.m, true) != c.with {
			t.Errorf("P14.2: Has(%s, %q): not %v without and %v with credentials", show(c.a), c.m, c.without, c.with)
		}
	}
}

func TestCovers(t *testing.T) {
	two := api.Allow{Headers: []string{"x-one", "authorization"}, Methods: []string{"x-two", "*"}}
	star := api.Allow{Headers: []string{"*"}, Methods: []string{"authorization"}}
	both := api.Allow{Headers: []string{"*", "authorization"}}
	for _, c := range []struct {
		a             api.Allow
		name          string
		without, with bool
	}{
		{two, "x-one", true, true}, {two, "X-ONE", true, true}, {two, "authorization", true, true}, {two, "Authorization", true, true},
		{two, "x-two", false, false}, {two, "x-one ", false, false}, {two, "x-on", false, false}, {two, "", false, false}, {two, "*", false, false},
		{star, "x-two", true, false}, {star, "", true, false}, {star, "a b", true, false}, {star, "*", true, true}, {star, "**", true, false},
		{star, "authorization", false, false}, {star, "AUTHORIZATION", false, false}, {star, "aUTHORIZATIOn", false, false},
		{star, "authorization ", true, false}, {star, "authorizations", true, false}, {star, "uthorization", true, false}, {star, "author\u0131zation", true, false},
		{both, "Authorization", true, true}, {both, "x", true, false},
		{api.Allow{}, "accept", false, false}, {api.Allow{}, "", false, false}, {api.Allow{}, "get", false, false}, {api.Allow{}, "authorization", false, false},
		// Elements that no Read returns: only the name that is asked for is made small.
		{api.Allow{Headers: []string{"X-A"}}, "X-A", false, false}, {api.Allow{Headers: []string{"X-A"}}, "x-a", false, false},
		{api.Allow{Headers: []string{"", " x"}}, "", true, true}, {api.Allow{Headers: []string{"", " x"}}, " X", true, true},
		{api.Allow{Headers: []string{"k"}}, "\u212a", false, false}, {api.Allow{Headers: []string{"\u00e9"}}, "\u00c9", false, false},
	} {
		if Covers(c.a, c.name, false) != c.without || Covers(c.a, c.name, true) != c.with {
			t.Errorf("P14.2: Covers(%s, %q): not %v without and %v with credentials", show(c.a), c.name, c.without, c.with)
		}
	}
}

// TestAllShortAllows asks all lists of up to three elements for each of a few texts.
func TestAllShortAllows(t *testing.T) {
	texts := []string{"PUT", "put", "*", "", "x-a", "X-A", "authorization", "Authorization", "get"}
	all := lists(3, texts...)
	for i, l := range all {
		for _, s := range append(texts, "POST", "x-b", "AUTHORIZATION", "**") {
			expectLets(t, api.Allow{Methods: l}, s)
			expectLets(t, api.Allow{Headers: l}, s)
			expectLets(t, api.Allow{Methods: l, Headers: all[len(all)-1-i], Age: uint64(i)}, s)
		}
	}
}

// TestSafeMethodsInEachCase: each mix of capitals and small letters is let by nothing at all.
func TestSafeMethodsInEachCase(t *testing.T) {
	for _, m := range []string{"GET", "HEAD", "POST", "PUT", "PATCH", "OPTIONS"} {
		for mix := range 1 << len(m) {
			b := []byte(m)
			for i := range b {
				if mix>>i&1 == 1 {
					b[i] += 'a' - 'A'
				}
			}
			for _, a := range []api.Allow{{}, {Methods: []string{m}}, {Methods: []string{"*"}}} {
				expectLets(t, a, string(b))
			}
		}
	}
}

// TestLetsEachByte puts each byte into a text that is asked for, and into an element.
func TestLetsEachByte(t *testing.T) {
	for c := range 256 {
		s := oneByte(c)
		for _, text := range []string{s, s + "a", "B" + s, "a" + s + "B", s + "authorization", "authorization" + s, "*" + s} {
			for _, element := range []string{text, small(text), strings.ToUpper(text), "*", "a"} {
				expectLets(t, api.Allow{Methods: []string{element}, Headers: []string{element}}, text)
			}
		}
	}
}

// TestReadIsWhatIsAsked: what Read returns is let, and nothing else is.
func TestReadIsWhatIsAsked(t *testing.T) {
	a, e := Read(list(forMethods, "PUT, patch", forHeaders, "X-A,Authorization")...)
	if e != api.OK {
		t.Fatalf("P14.1: %d", e)
	}
	for _, s := range []string{"PUT", "put", "patch", "PATCH", "x-a", "X-A", "authorization", "Authorization", "DELETE", "X-B", "*"} {
		expectLets(t, a, s)
	}
}

func TestAnswersAreNewMemory(t *testing.T) {
	l := list(forMethods, "a, b, c", forHeaders, "d, e, f", forAge, "9")
	first, _ := Read(l...)
	second, _ := Read(l...)
	for _, grown := range [][]string{first.Methods, first.Headers} {
		whole := grown[:cap(grown)]
		for i := range whole {
			whole[i] = "changed"
		}
	}
	want := api.Allow{Methods: []string{"a", "b", "c"}, Headers: []string{"d", "e", "f"}, Age: 9}
	if !same(second, want) {
		t.Errorf("R4: two answers share memory: %s", show(second))
	}
	methods := second.Methods[:cap(second.Methods)]
	for i := range methods {
		methods[i] = "changed"
	}
	if !slices.Equal(second.Headers, want.Headers) {
		t.Errorf("R4: two lists of one answer share memory: %s", show(second))
	}
	expectRead(t, l, want, api.OK)
}

// TestGreatLists: lists and values far beyond what a request may have.
func TestGreatLists(t *testing.T) {
	const size = 200000
	elements := make([]string, size)
	for i := range elements {
		elements[i] = "M" + strconv.Itoa(i)
	}
	value := strings.Join(elements, ",")
	a, e := Read(list(forMethods, value, forHeaders, value, forAge, value)...)
	if e != api.OK || !slices.Equal(a.Methods, elements) || len(a.Headers) != size || a.Headers[size-1] != "m199999" || a.Age != 5 {
		t.Errorf("P14.1: Read of one great value: %d methods, %d headers, %d", len(a.Methods), len(a.Headers), e)
	}
	if !Has(a, "M199999", true) || Has(a, "m199999", false) || !Covers(a, "M199999", true) || Covers(a, "M200000", false) {
		t.Error("P14.2: a great list")
	}
	var l []api.Header
	for _, element := range elements {
		l = append(l, list(forMethods, element)...)
	}
	if b, e := Read(l...); e != api.OK || !slices.Equal(b.Methods, elements) || len(b.Headers) != 0 {
		t.Errorf("P14.1: Read of many headers: %d methods, %d", len(b.Methods), e)
	}
	if b, e := Read(list(forHeaders, strings.Repeat(", ", 1<<20))...); e != api.OK || !same(b, api.Allow{Age: 5}) {
		t.Errorf("P14.1: Read of commas alone: %d headers, %d", len(b.Headers), e)
	}
}

func TestManyAtOnce(t *testing.T) {
	l := list(forMethods, "PUT, x", forHeaders, "X-A, *", forAge, "60")
	want := api.Allow{Methods: []string{"PUT", "x"}, Headers: []string{"x-a", "*"}, Age: 60}
	var wait sync.WaitGroup
	for range 8 {
		wait.Go(func() {
			for range 200 {
				a, e := Read(l...)
				if !same(a, want) || e != api.OK || !Has(want, "x", true) || Has(want, "y", true) || !Covers(want, "X-A", true) || Covers(want, "Authorization", false) {
					t.Error("R5: answers hang on other goroutines")
				}
			}
		})
	}
	wait.Wait()
}

func FuzzAllow(f *testing.F) {
	f.Add("PUT, x", "X-A,*", "60", "x", "*")
	f.Add("a b", "c d", "-1", "Authorization", "authorization")
	f.Add("", ",", "7201", "GET", "")
	f.Fuzz(func(t *testing.T, methods, headers, age, asked, element string) {
		for _, l := range [][]api.Header{
			list(forMethods, methods, forHeaders, headers, forAge, age),
			list("Access-Control-Allow-Headers", headers, asked, age, forMethods, methods, forMethods, element, forHeaders, element),
		} {
			expectByRules(t, l)
			a, _ := Read(l...)
			expectLets(t, a, asked)
			expectLets(t, a, element)
		}
		expectLets(t, api.Allow{Methods: []string{methods, element}, Headers: []string{headers, element}}, asked)
	})
}
