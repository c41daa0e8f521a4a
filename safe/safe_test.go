package safe

import (
	"math/big"
	"slices"
	"sort"
	"strconv"
	"strings"
	"sync"
	"testing"

	"lockkeeper/api"
)

const (
	letters    = "abcdefghijklmnopqrstuvwxyzABCDEFGHIJKLMNOPQRSTUVWXYZ"
	digits     = "0123456789"
	tokenBytes = letters + digits + "!#$%&'*+-.^_\x60|~"
)

func oneByte(c int) string { return string([]byte{byte(c)}) }

// list makes headers of names and values by turns.
func list(texts ...string) []api.Header {
	var l []api.Header
	for i := 0; i+1 < len(texts); i += 2 {
		l = append(l, api.Header{Name: texts[i], Value: texts[i+1]})
	}
	return l
}

// texts are all strings of up to size of the given pieces.
func texts(size int, pieces ...string) []string {
	all, last := []string{""}, []string{""}
	for range size {
		var longer []string
		for _, s := range last {
			for _, piece := range pieces {
				longer = append(longer, s+piece)
			}
		}
		all, last = append(all, longer...), longer
	}
	return all
}

// only, small, bare and the functions below them say the chapter's words once
// more, the slow way.
func only(s, good string) bool {
	for i := range len(s) {
		if strings.IndexByte(good, s[i]) < 0 {
			return false
		}
	}
	return true
}

func small(s string) string {
	out := ""
	for i := range len(s) {
		c := s[i]
		if c >= 'A' && c <= 'Z' {
			c += 32
		}
		out += string([]byte{c})
	}
	return out
}

func bare(s string) string {
	for s != "" && strings.Contains("\t\n\r ", s[:1]) {
		s = s[1:]
	}
	for s != "" && strings.Contains("\t\n\r ", s[len(s)-1:]) {
		s = s[:len(s)-1]
	}
	return s
}

func slowByte(b byte) bool {
	switch b {
	case 34, 40, 41, 58, 60, 62, 63, 64, 91, 92, 93, 123, 125, 127:
		return false
	case 9:
		return true
	}
	return b >= 32
}

func slowBytes(s string) bool {
	return !slices.ContainsFunc([]byte(s), func(b byte) bool { return !slowByte(b) })
}

func slowEssence(v string) (string, bool) {
	part := bare(strings.Split(v, ";")[0])
	tokens := strings.Split(part, "/")
	if len(tokens) != 2 {
		return "", false
	}
	for _, token := range tokens {
		if token == "" || !only(token, tokenBytes) {
			return "", false
		}
	}
	return small(part), true
}

// slowNumber stays at the greatest number that octet.Digits answers.
func slowNumber(s string) (*big.Int, bool) {
	if s == "" || !only(s, digits) {
		return nil, false
	}
	n, _ := new(big.Int).SetString(s, 10)
	most := new(big.Int).Sub(new(big.Int).Lsh(big.NewInt(1), 64), big.NewInt(1))
	if n.Cmp(most) > 0 {
		n = most
	}
	return n, true
}

// slowRange tries each place where the hyphen may stand.
func slowRange(v string) bool {
	if len(v) < 6 || v[:6] != "bytes=" {
		return false
	}
	for i := 6; i < len(v); i++ {
		first, ok := slowNumber(v[6:i])
		if !ok || v[i] != '-' {
			continue
		}
		last, ok := slowNumber(v[i+1:])
		if i+1 == len(v) || ok && last.Cmp(first) >= 0 {
			return true
		}
	}
	return false
}

func slowHeader(h api.Header) bool {
	v, name := bare(h.Value), small(h.Name)
	if len(v) > 128 {
		return false
	}
	if name == "accept" {
		return slowBytes(v)
	}
	if name == "accept-language" || name == "content-language" {
		return only(v, letters+digits+" *,-.;=")
	}
	if name == "content-type" {
		e, ok := slowEssence(v)
		return slowBytes(v) && ok && (e == "application/x-www-form-urlencoded" || e == "multipart/form-data" || e == "text/plain")
	}
	return name == "range" && slowRange(v)
}

func slowNames(l []api.Header) []string {
	sum := 0
	for _, h := range l {
		if slowHeader(h) {
			sum += len(bare(h.Value))
		}
	}
	seen := map[string]bool{}
	for _, h := range l {
		if sum > 1024 || !slowHeader(h) {
			seen[small(h.Name)] = true
		}
	}
	var names []string
	for name := range seen {
		names = append(names, name)
	}
	sort.Strings(names)
	return names
}

func expectEssence(t *testing.T, v string) {
	t.Helper()
	want, wantOK := slowEssence(v)
	if got, ok := Essence(v); got != want || ok != wantOK {
		t.Errorf("P7.1: Essence(%q): %q, %v, not %q, %v", v, got, ok, want, wantOK)
	}
}

func expectRange(t *testing.T, v string) {
	t.Helper()
	if want := slowRange(v); Range(v) != want {
		t.Errorf("P7.1: Range(%q): not %v", v, want)
	}
}

func expectHeader(t *testing.T, name, value string) {
	t.Helper()
	h := api.Header{Name: name, Value: value}
	if want := slowHeader(h); Header(h) != want {
		t.Errorf("P7.2: Header of %.200q: not %v", h, want)
	}
}

// expectNames gives Names a list with capacity to spare, all of which must stay.
func expectNames(t *testing.T, l []api.Header) {
	t.Helper()
	given := append(slices.Clone(l), list("spare-1", "x", "spare-2", "y")...)
	before := slices.Clone(given)
	if got, want := Names(given[:len(l)]...), slowNames(l); !slices.Equal(got, want) {
		t.Errorf("P7.3: Names(%.200q): %.200q, not %.200q", l, got, want)
	}
	if !slices.Equal(before, given) {
		t.Errorf("R4: %.200q has become %.200q", before, given)
	}
}

func TestExamples(t *testing.T) {
	if got, ok := Essence(" Text/Plain ;x"); got != "text/plain" || !ok {
		t.Errorf("P7.1: Essence: %q, %v", got, ok)
	}
	if !Range("bytes=5-") || Range("bytes=5-4") || Range("bytes=-4") {
		t.Error("P7.1: Range")
	}
}

func TestEachByte(t *testing.T) {
	good := 0
	for c := range 256 {
		if Byte(byte(c)) != slowByte(byte(c)) {
			t.Errorf("P7.1: Byte(%d): not %v", c, slowByte(byte(c)))
		}
		if Byte(byte(c)) {
			good++
		}
	}
	if good != 256-32+1-14 {
		t.Errorf("P7.1: %d good bytes", good)
	}
}

func TestEssence(t *testing.T) {
	for _, c := range []struct {
		in, want string
		ok       bool
	}{
		{"text/plain", "text/plain", true},
		{"TEXT/Plain", "text/plain", true},
		{"\t\r\n text/plain\t\r\n ", "text/plain", true},
		{"text/plain;charset=utf-8", "text/plain", true},
		{"text/plain \t;;/;", "text/plain", true},
		{"a/b;c/d", "a/b", true},
		{"!#$/%&'*+-.^_\x60|~", "!#$/%&'*+-.^_\x60|~", true},
		{"0/9", "0/9", true},
		{"", "", false},
		{";", "", false},
		{";text/plain", "", false},
		{"text", "", false},
		{"/", "", false},
		{"text/", "", false},
		{"text/ ;", "", false},
		{"/plain", "", false},
		{"text//plain", "", false},
		{"text/plain/", "", false},
		{"text/plain/x", "", false},
		{"text /plain", "", false},
		{"text/ plain", "", false},
		{"text/plain,text/plain", "", false},
		{"text/plain charset", "", false},
		{"text\\plain", "", false},
		{"text/pl\x00ain", "", false},
		{"\vtext/plain", "", false},
		{"\u00a0text/plain", "", false},
		{"text/pl\u00e4in", "", false},
		{"te\u212at/plain", "", false},
	} {
		if got, ok := Essence(c.in); got != c.want || ok != c.ok {
			t.Errorf("P7.1: Essence(%q): %q, %v, not %q, %v", c.in, got, ok, c.want, c.ok)
		}
	}
}

func TestEssenceOfEachByte(t *testing.T) {
	for c := range 256 {
		s := oneByte(c)
		for _, v := range []string{s, s + "a/b", "a" + s + "/b", "a/" + s + "b", "a/b" + s, s + "/b", "a/" + s, "a" + s + "b", "a/b;" + s, "a/b" + s + "/c"} {
			expectEssence(t, v)
		}
	}
}

func TestEssenceOfShortTexts(t *testing.T) {
	for _, v := range texts(6, "a", "/", ";", " ", "\x7f") {
		expectEssence(t, v)
	}
}

func TestRange(t *testing.T) {
	for _, c := range []struct {
		in   string
		want bool
	}{
		{"bytes=0-", true},
		{"bytes=0-0", true},
		{"bytes=007-", true},
		{"bytes=5-5", true},
		{"bytes=5-6", true},
		{"bytes=5-4", false},
		{"bytes=9-10", true},
		{"bytes=10-9", false},
		{"bytes=10-09", false},
		{"bytes=09-9", true},
		{"bytes=18446744073709551614-18446744073709551613", false},
		{"bytes=18446744073709551615-18446744073709551614", false},
		{"bytes=18446744073709551615-18446744073709551615", true},
		{"bytes=18446744073709551616-18446744073709551615", true},
		{"bytes=18446744073709551616-18446744073709551614", false},
		{"bytes=99999999999999999999-", true},
		{"bytes=4-18446744073709551619", true},
		{"bytes=99999999999999999999-99999999999999999998", true},
		{"", false},
		{"bytes", false},
		{"bytes=", false},
		{"bytes=-", false},
		{"bytes=-4", false},
		{"bytes=5", false},
		{"bytes=--5", false},
		{"bytes=5--", false},
		{"bytes=5--6", false},
		{"bytes=5-6-", false},
		{"bytes=5-6-7", false},
		{"bytes=5-6,7-8", false},
		{"bytes=5-x", false},
		{"bytes=x-5", false},
		{"bytes=+5-6", false},
		{"bytes=5-+6", false},
		{"bytes= 5-6", false},
		{"bytes=5 -6", false},
		{"bytes=5- 6", false},
		{"bytes=5- ", false},
		{"bytes=5-6 ", false},
		{" bytes=5-6", false},
		{"bytes =5-6", false},
		{"Bytes=5-6", false},
		{"BYTES=5-6", false},
		{"byte=5-6", false},
		{"bytes:5-6", false},
		{"bytes5-6", false},
		{"5-6", false},
		{"bytes=bytes=5-6", false},
		{"bytes=5\u20136", false},
		{"bytes=\u0665-", false},
		{"bytes=0x5-", false},
	} {
		if Range(c.in) != c.want {
			t.Errorf("P7.1: Range(%q): not %v", c.in, c.want)
		}
	}
}

func TestRangeOfEachByte(t *testing.T) {
	for c := range 256 {
		s := oneByte(c)
		for _, v := range []string{s, s + "bytes=1-2", "bytes" + s + "1-2", "bytes=" + s + "-", "bytes=" + s + "1-2", "bytes=1" + s + "2", "bytes=1" + s, "bytes=1-" + s, "bytes=1-" + s + "2", "bytes=1-2" + s} {
			expectRange(t, v)
		}
	}
}

func TestRangeOfShortTexts(t *testing.T) {
	for _, v := range texts(7, "0", "1", "9", "-") {
		expectRange(t, "bytes="+v)
	}
}

// TestRangeAroundTheBound takes pairs of numbers on both sides of 2^64 - 1.
func TestRangeAroundTheBound(t *testing.T) {
	bound := new(big.Int).Lsh(big.NewInt(1), 64)
	var numbers []string
	for d := int64(-4); d <= 4; d++ {
		numbers = append(numbers, new(big.Int).Add(bound, big.NewInt(d)).String())
	}
	numbers = append(numbers, "0", "4", "9223372036854775807", "9223372036854775808", strings.Repeat("9", 50), strings.Repeat("0", 50))
	for _, first := range numbers {
		for _, last := range numbers {
			expectRange(t, "bytes="+first+"-"+last)
		}
	}
}

func TestHeader(t *testing.T) {
	for _, c := range []struct {
		name, value string
		want        bool
	}{
		{"accept", "text/html, */*;q=0.8", true},
		{"aCCEPT", "\r\n*/*\t", true},
		{"accept", "", true},
		{"accept", " ", true},
		{"accept", "a\tb", true},
		{"accept", "a\nb", false},
		{"accept", "a\x00b", false},
		{"accept", "\v", false},
		{"accept", "caf\u00e9", true},
		{"accept", "\x80\xff", true},
		{"accept", "\x7f", false},
		{"accept", "{}", false},
		{"accept-language", "en-GB, de;q=0.5, *", true},
		{"Accept-Language", "", true},
		{"CONTENT-LANGUAGE", "\tmi, en\n", true},
		{"content-language", "a\tb", false},
		{"accept-language", "en_GB", false},
		{"accept-language", "a/b", false},
		{"accept-language", "\u00e9", false},
		{"content-language", "a+b", false},
		{"content-type", "text/plain", true},
		{"content-type", " Text/PLAIN ; charset=utf-8 ", true},
		{"Content-Type", "multipart/form-data;boundary=----x", true},
		{"content-type", "application/x-www-form-urlencoded;a/b", true},
		{"content-type", "text/plain;a=\"b\"", false},
		{"content-type", "text/plain;\x7f", false},
		{"content-type", "text/plain\n;x", false},
		{"content-type", "text/plain\t;x", true},
		{"content-type", "text/plain;\xff", true},
		{"content-type", "text/html", false},
		{"content-type", "text/plainx", false},
		{"content-type", "xtext/plain", false},
		{"content-type", "text/plain, text/plain", false},
		{"content-type", "text/plain/", false},
		{"content-type", "text / plain", false},
		{"content-type", "multipart/mixed", false},
		{"content-type", "application/json", false},
		{"content-type", "", false},
		{"content-type", ";text/plain", false},
		{"range", "bytes=0-499", true},
		{"Range", "\tbytes=500-\r\n", true},
		{"range", "bytes=-500", false},
		{"range", "bytes=500-499", false},
		{"range", "BYTES=0-499", false},
		{"range", "", false},
		{"", "", false},
		{"accept ", "", false},
		{" accept", "", false},
		{"accept\x00", "", false},
		{"accep", "", false},
		{"accept-encoding", "gzip", false},
		{"accept-charset", "a", false},
		{"language", "de", false},
		{"content-length", "5", false},
		{"content_type", "text/plain", false},
		{"content-type:", "text/plain", false},
		{"authorization", "x", false},
		{"x-y", "", false},
		{"accept-\u212aanguage", "de", false},
	} {
		if Header(api.Header{Name: c.name, Value: c.value}) != c.want {
			t.Errorf("P7.2: %s: %q: not %v", c.name, c.value, c.want)
		}
	}
}

// TestHeaderLengths: MaxSafe holds for each name, and for the trimmed value.
func TestHeaderLengths(t *testing.T) {
	for name, start := range map[string]string{
		"accept": "", "accept-language": "", "content-language": "", "content-type": "text/plain;", "range": "bytes=1-",
	} {
		for size := len(start) + 1; size <= 300; size++ {
			value := start + strings.Repeat("9", size-len(start))
			for _, v := range []string{value, " " + value, value + "\n", strings.Repeat("\r", 500) + value + strings.Repeat("\t", 500)} {
				if got := Header(api.Header{Name: name, Value: v}); got != (size <= 128) {
					t.Errorf("P7.2: %s of %d bytes: %v", name, size, got)
				}
			}
		}
	}
	if !Header(api.Header{Name: "accept", Value: strings.Repeat("\u00e9", 64)}) || Header(api.Header{Name: "accept", Value: strings.Repeat("\u00e9", 64) + "a"}) {
		t.Error("P7.2: MaxSafe counts bytes")
	}
	if Header(api.Header{Name: "accept", Value: "a" + strings.Repeat(" ", 127) + "a"}) || !Header(api.Header{Name: "accept", Value: "a" + strings.Repeat(" ", 126) + "a"}) {
		t.Error("P7.2: MaxSafe counts what is inside")
	}
}

func TestHeaderOfEachByte(t *testing.T) {
	for c := range 256 {
		s := oneByte(c)
		for _, name := range []string{"accept", "Accept-language", "content-LANGUAGE", "content-type", "range", "x-accept"} {
			for _, v := range []string{s, s + "a", "a" + s, "a" + s + "b", "text/plain" + s, "text/plain;" + s + "x", s + "text/plain", "text" + s + "plain", "bytes=1-" + s, "bytes=1" + s + "2"} {
				expectHeader(t, name, v)
			}
		}
		for _, name := range []string{s, "accept" + s, s + "accept", "accept" + s + "language", s + "ange", "rang" + s} {
			expectHeader(t, name, "bytes=1-")
			expectHeader(t, name, "")
		}
	}
}

// TestHeaderByNames takes each value with each name, in small letters and in capitals.
func TestHeaderByNames(t *testing.T) {
	values := []string{"", "de", "text/plain", "TEXT/plain;q", "multipart/form-data", "application/x-www-form-urlencoded", "bytes=1-2", "bytes=2-1", "a{b", "a_b", strings.Repeat("a", 128), strings.Repeat("a", 129)}
	for _, name := range []string{"accept", "accept-language", "content-language", "content-type", "range", "accept-encoding", "content", ""} {
		for _, v := range values {
			expectHeader(t, name, v)
			expectHeader(t, strings.ToUpper(name), v)
		}
	}
}

func TestNames(t *testing.T) {
	for _, c := range []struct {
		l    []api.Header
		want []string
	}{
		{nil, nil},
		{list("accept", "*/*", "Range", "bytes=1-", "content-type", "text/plain"), nil},
		{list("x-b", "", "X-A", "", "x-B", "", "x-a", ""), []string{"x-a", "x-b"}},
		{list("accept", "*/*", "ACCEPT", "(", "accept", "*/*"), []string{"accept"}},
		{list("Content-Type", "application/json", "Authorization", "x", "accept", ""), []string{"authorization", "content-type"}},
		{list("z", "", "_", "", "A", "", "-", "", "a0", "", "", "", "\xff", "", "\u00e9", ""), []string{"", "-", "_", "a", "a0", "z", "\u00e9", "\xff"}},
		{list("accept", strings.Repeat("a", 129), "b", strings.Repeat("b", 5000)), []string{"accept", "b"}},
		{list("k", "", "\u212a", ""), []string{"k", "\u212a"}},
	} {
		if got := Names(c.l...); !slices.Equal(got, c.want) {
			t.Errorf("P7.3: Names(%.200q): %q, not %q", c.l, got, c.want)
		}
		expectNames(t, c.l)
	}
}

// TestNamesInTotal goes over the edge of MaxSafes byte by byte. Only trimmed
// values of headers that need no preflight count.
func TestNamesInTotal(t *testing.T) {
	most := slices.Repeat(list("Accept", strings.Repeat("a", 128)), 7)
	most = append(most, list("Content-Language", "c", "range", "bytes=1-")...)
	const sum = 7*128 + 9
	others := list("X-Y", strings.Repeat("y", 3000), "accept", strings.Repeat("a", 129))
	for size := range 200 {
		want := []string{}
		switch {
		case size > 128:
			want = []string{"accept-language"}
		case sum+size > 1024:
			want = []string{"accept", "accept-language", "content-language", "range"}
		}
		last := api.Header{Name: "Accept-Language", Value: " \t" + strings.Repeat("b", size) + "\r\n"}
		if got := Names(append(slices.Clone(most), last)...); !slices.Equal(got, want) {
			t.Errorf("P7.3: %d and %d bytes: %q, not %q", sum, size, got, want)
		}
		want = append(want, "accept", "x-y")
		slices.Sort(want)
		want = slices.Compact(want)
		if got := Names(slices.Concat(others, []api.Header{last}, most)...); !slices.Equal(got, want) {
			t.Errorf("P7.3: others, %d and %d bytes: %q, not %q", sum, size, got, want)
		}
	}
	if got := Names(slices.Repeat(list("Accept", strings.Repeat("a", 128)), 8)...); len(got) != 0 {
		t.Errorf("P7.3: 1,024 bytes: %q", got)
	}
	if got := Names(slices.Repeat(list("Accept", strings.Repeat("a", 128)), 9)...); !slices.Equal(got, []string{"accept"}) {
		t.Errorf("P7.3: 1,152 bytes: %q", got)
	}
}

// TestNamesOfShortLists goes through all lists of up to five of a few headers:
// alone, with others that leave no room, and with others that leave 13 bytes.
func TestNamesOfShortLists(t *testing.T) {
	kinds := list("B", "1", "accept", "*/*", "ACCEPT", "(", "range", "bytes=2-1", "a", "", "Content-Type", "text/plain")
	long := list("Accept-Language", strings.Repeat("x", 128))
	lists := [][]api.Header{nil}
	for range 6 {
		var longer [][]api.Header
		for _, l := range lists {
			expectNames(t, l)
			expectNames(t, append(slices.Clone(l), slices.Repeat(long, 8)...))
			expectNames(t, append(append(list("content-language", strings.Repeat("y", 115)), l...), slices.Repeat(long, 7)...))
			if len(l) == 5 {
				continue
			}
			for _, h := range kinds {
				longer = append(longer, append(slices.Clone(l), h))
			}
		}
		lists = longer
	}
}

func TestAnswersAreNewMemory(t *testing.T) {
	l := list("b", "1", "A", "2")
	first, second := Names(l...), Names(l...)
	first[0], first[1] = "changed", "changed"
	if want := []string{"a", "b"}; !slices.Equal(second, want) || !slices.Equal(Names(l...), want) {
		t.Errorf("R4: two answers of Names share memory: %q", second)
	}
	one := list("c", "1")
	kept := Names(one...)
	one[0].Name = "later"
	if !slices.Equal(kept, []string{"c"}) {
		t.Errorf("R4: Names keeps its arguments: %q", kept)
	}
}

// TestGreatSizes: texts and lists far beyond the limits take time by their size alone.
func TestGreatSizes(t *testing.T) {
	const size = 1 << 20
	if got, ok := Essence(strings.Repeat("A", size) + "/" + strings.Repeat("b", size) + strings.Repeat(";", size)); len(got) != 2*size+1 || !ok {
		t.Errorf("P7.1: Essence: %d bytes, %v", len(got), ok)
	}
	if _, ok := Essence(strings.Repeat("/", size)); ok {
		t.Error("P7.1: Essence of slashes")
	}
	if !Range("bytes="+strings.Repeat("0", size)+"5-"+strings.Repeat("0", size)+"5") || Range("bytes="+strings.Repeat("-", size)) {
		t.Error("P7.1: Range")
	}
	if !Header(api.Header{Name: "accept", Value: strings.Repeat(" ", size)}) || Header(api.Header{Name: strings.Repeat("accept", size/6)}) {
		t.Error("P7.2: Header")
	}
	var l []api.Header
	for i := range 60000 {
		l = append(l, api.Header{Name: "N" + strconv.Itoa(i%50000)}, api.Header{Name: "Accept"})
	}
	if got := Names(l...); len(got) != 50000 || !slices.IsSorted(got) {
		t.Errorf("P7.3: Names: %d names", len(got))
	}
	for i := range l {
		l[i].Value = "bb"
	}
	if got := Names(l...); len(got) != 50001 || !slices.IsSorted(got) || got[0] != "accept" {
		t.Errorf("P7.3: Names of many: %d names", len(got))
	}
}

func TestManyAtOnce(t *testing.T) {
	l := list("x", "1", "Accept", "*/*", "X", "3", "a", "")
	var wait sync.WaitGroup
	for range 8 {
		wait.Go(func() {
			for range 200 {
				got, ok := Essence("A/b;")
				if got != "a/b" || !ok || !Byte(9) || !Range("bytes=1-2") || !Header(l[1]) || !slices.Equal(Names(l...), []string{"a", "x"}) {
					t.Error("R5: answers hang on other goroutines")
				}
			}
		})
	}
	wait.Wait()
}

func FuzzSafe(f *testing.F) {
	f.Add("accept", "*/*", "X-y", "1")
	f.Add("range", "bytes=1-2", "content-type", "Text/plain;x")
	f.Fuzz(func(t *testing.T, n1, v1, n2, v2 string) {
		for _, v := range []string{v1, v2, v1 + "/" + v2, v1 + ";" + v2} {
			expectEssence(t, v)
			expectHeader(t, n1, v)
			expectHeader(t, "content-type", v)
			expectHeader(t, "accept-language", v)
		}
		expectRange(t, v1)
		expectRange(t, "bytes="+v1+"-"+v2)
		expectNames(t, list(n1, v1, n2, v2, n1, v2))
		expectNames(t, slices.Repeat(list(n1, v1, "accept", v2), 20))
	})
}
