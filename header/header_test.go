package header

import (
	"slices"
	"sort"
	"strconv"
	"strings"
	"sync"
	"testing"

	"lockkeeper/api"
)

const tokenBytes = "abcdefghijklmnopqrstuvwxyzABCDEFGHIJKLMNOPQRSTUVWXYZ0123456789!#$%&'*+-.^_\x60|~"

func oneByte(c int) string { return string([]byte{byte(c)}) }

// list makes headers of names and values by turns.
func list(texts ...string) []api.Header {
	var l []api.Header
	for i := 0; i+1 < len(texts); i += 2 {
		l = append(l, api.Header{Name: texts[i], Value: texts[i+1]})
	}
	return l
}

// roomy is l with capacity to spare, filled with what must stay.
func roomy(l []api.Header) []api.Header {
	room := append(slices.Clone(l), list("spare-1", "x", "spare-2", "y")...)
	return room[:len(l)]
}

// small, bare and the functions below them say the chapter's words once more, the slow way.
func small(s string) string {
	out := ""
	for i := range len(s) {
		c := s[i]
		if c >= 'A' && c <= 'Z' {
			c += 32
		}
		out += string([]byte{c})
	}
	return out
}

func bare(s string) string {
	for s != "" && strings.Contains("\t\n\r ", s[:1]) {
		s = s[1:]
	}
	for s != "" && strings.Contains("\t\n\r ", s[len(s)-1:]) {
		s = s[:len(s)-1]
	}
	return s
}

func slowCheck(l []api.Header) api.Errno {
	if len(l) > 32 {
		return api.ErrSize
	}
	for _, h := range l {
		if h.Name == "" || len(h.Name) > 64 {
			return api.ErrHeader
		}
		for i := range len(h.Name) {
			if strings.IndexByte(tokenBytes, h.Name[i]) < 0 {
				return api.ErrHeader
			}
		}
		v := bare(h.Value)
		if len(v) > 4096 {
			return api.ErrHeader
		}
		for i := range len(v) {
			if v[i] == 0 || v[i] == 10 || v[i] == 13 {
				return api.ErrHeader
			}
		}
	}
	return api.OK
}

func slowNorm(l []api.Header) []api.Header {
	var out []api.Header
	for _, h := range l {
		out = append(out, api.Header{Name: small(h.Name), Value: bare(h.Value)})
	}
	return out
}

func slowGet(l []api.Header, name string) (string, bool) {
	out, found := "", false
	for _, h := range l {
		if small(h.Name) == small(name) {
			if found {
				out += ", "
			}
			out, found = out+bare(h.Value), true
		}
	}
	return out, found
}

func slowSet(l []api.Header, name, value string) []api.Header {
	out := slices.Clone(l)
	first := slices.IndexFunc(out, func(h api.Header) bool { return small(h.Name) == small(name) })
	if first < 0 {
		return append(out, api.Header{Name: name, Value: value})
	}
	out[first].Value = value
	for i := len(out) - 1; i > first; i-- {
		if small(out[i].Name) == small(name) {
			out = slices.Delete(out, i, i+1)
		}
	}
	return out
}

func slowNames(l []api.Header) []string {
	seen := map[string]bool{}
	for _, h := range l {
		seen[small(h.Name)] = true
	}
	var out []string
	for name := range seen {
		out = append(out, name)
	}
	sort.Strings(out)
	return out
}

// expectByRules holds each call for l against the slow one, and l against itself.
func expectByRules(t *testing.T, l []api.Header, name, value string) {
	t.Helper()
	given := roomy(l)
	before := slices.Clone(given[:cap(given)])
	if got, want := Check(given...), slowCheck(l); got != want {
		t.Errorf("P6.1: Check(%.200q): %d, not %d", l, got, want)
	}
	if got, want := Norm(given...), slowNorm(l); !slices.Equal(got, want) {
		t.Errorf("P6.1: Norm(%.200q): %.200q, not %.200q", l, got, want)
	}
	if !Same(given, slowNorm(l)) || !Same(slowNorm(l), given) {
		t.Errorf("P6.1: Same(%.200q): not as its Norm", l)
	}
	got, ok := Get(given, name)
	if want, found := slowGet(l, name); got != want || ok != found {
		t.Errorf("P6.2: Get(%.200q, %q): %.200q, %v, not %.200q, %v", l, name, got, ok, want, found)
	}
	if got, want := Set(given, name, value), slowSet(l, name, value); !slices.Equal(got, want) {
		t.Errorf("P6.2: Set(%.200q, %q, %q): %.200q, not %.200q", l, name, value, got, want)
	}
	if got, want := Names(given...), slowNames(l); !slices.Equal(got, want) {
		t.Errorf("P6.2: Names(%.200q): %.200q, not %.200q", l, got, want)
	}
	if !slices.Equal(before, given[:cap(given)]) {
		t.Errorf("R4: %.200q has become %.200q", before, given[:cap(given)])
	}
}

func TestExamples(t *testing.T) {
	if got, ok := Get(list("a", "1", "A", "2"), "a"); got != "1, 2" || !ok {
		t.Errorf("P6.2: Get: %q, %v", got, ok)
	}
	if got := Set(list("a", "1", "b", "2", "A", "3"), "A", "x"); !slices.Equal(got, list("a", "x", "b", "2")) {
		t.Errorf("P6.2: Set: %q", got)
	}
}

func TestCheckCounts(t *testing.T) {
	for size := range 70 {
		want := api.OK
		if size > 32 {
			want = api.ErrSize
		}
		if got := Check(slices.Repeat(list("a", "1"), size)...); got != want {
			t.Errorf("P6.1: Check of %d headers: %d, not %d", size, got, want)
		}
		if size > 0 && size <= 32 {
			want = api.ErrHeader
		}
		if got := Check(slices.Repeat(list("", "\x00"), size)...); got != want {
			t.Errorf("P6.1, R6: Check of %d wrong headers: %d, not %d", size, got, want)
		}
	}
}

// TestCheckEachPlace puts one wrong header at each place of a full list.
func TestCheckEachPlace(t *testing.T) {
	for _, wrong := range [][]api.Header{list("", "1"), list("a b", "1"), list("a", "1\n2"), list("a", "\x00")} {
		for i := range api.MaxHeaders {
			l := slices.Repeat(list("a", "1"), api.MaxHeaders)
			l[i] = wrong[0]
			if got := Check(l...); got != api.ErrHeader {
				t.Errorf("P6.1: Check with %q at %d: %d", wrong, i, got)
			}
		}
	}
}

func TestCheckEachByte(t *testing.T) {
	for c := range 256 {
		s := oneByte(c)
		want := api.ErrHeader
		if strings.Contains(tokenBytes, s) {
			want = api.OK
		}
		for _, name := range []string{s, s + "a", "a" + s, "a" + s + "b"} {
			if got := Check(list(name, "1")...); got != want {
				t.Errorf("P6.1: Check of the name %q: %d, not %d", name, got, want)
			}
		}
		inside, outside := api.OK, api.OK
		if c == 0 || c == 10 || c == 13 {
			inside = api.ErrHeader
		}
		if c == 0 {
			outside = api.ErrHeader
		}
		if got := Check(list("a", "x"+s+"y")...); got != inside {
			t.Errorf("P6.1: Check of byte %d inside a value: %d, not %d", c, got, inside)
		}
		for _, value := range []string{s, s + "x", "x" + s, s + s, " " + s + "\t"} {
			if got := Check(list("a", value)...); got != outside {
				t.Errorf("P6.1: Check of the value %q: %d, not %d", value, got, outside)
			}
		}
		long := strings.Repeat("v", 50) + s + strings.Repeat("w", 50)
		if got := Check(list("a", long)...); got != inside {
			t.Errorf("P6.1: Check of byte %d inside a long value: %d, not %d", c, got, inside)
		}
	}
}

func TestCheckLengths(t *testing.T) {
	for _, c := range []struct {
		name, value string
		want        api.Errno
	}{
		{strings.Repeat("n", 64), "", api.OK},
		{strings.Repeat("n", 65), "", api.ErrHeader},
		{strings.Repeat("n", 64) + " ", "", api.ErrHeader},
		{strings.Repeat("n", 1<<16+1), "", api.ErrHeader},
		{"a", strings.Repeat("v", 4096), api.OK},
		{"a", strings.Repeat("v", 4097), api.ErrHeader},
		{"a", strings.Repeat("v", 1<<16+1), api.ErrHeader},
		{"a", " " + strings.Repeat("v", 4096) + "\r\n", api.OK},
		{"a", " " + strings.Repeat("v", 4097) + " ", api.ErrHeader},
		{"a", strings.Repeat(" ", 9000), api.OK},
		{"a", strings.Repeat("\n", 9000) + "v" + strings.Repeat("\r", 9000), api.OK},
		{"a", "v" + strings.Repeat(" ", 4094) + "v", api.OK},
		{"a", "v" + strings.Repeat(" ", 4095) + "v", api.ErrHeader},
		{"a", strings.Repeat("\u00e9", 2048), api.OK},
		{"a", strings.Repeat("\u00e9", 2049), api.ErrHeader},
		{"a", strings.Repeat("\v", 4096), api.OK},
		{"a", strings.Repeat("\v", 4097), api.ErrHeader},
	} {
		if got := Check(list(c.name, c.value)...); got != c.want {
			t.Errorf("P6.1: Check of a name of %d and a value of %d bytes: %d, not %d", len(c.name), len(c.value), got, c.want)
		}
	}
}

// TestNormKeepsWhatIsWrong: Norm, Get, Set and Names ask nothing of names or values.
func TestNormKeepsWhatIsWrong(t *testing.T) {
	l := list("", "", "A B", "\x00", "\u00c9", "\u00a0x", "\xff\xfeZ", "\v1\f", " N ", "a\nb", "K\u212a", "1")
	want := list("", "", "a b", "\x00", "\u00c9", "\u00a0x", "\xff\xfez", "\v1\f", " n ", "a\nb", "k\u212a", "1")
	if got := Norm(l...); !slices.Equal(got, want) {
		t.Errorf("P6.1: Norm: %q", got)
	}
	expectByRules(t, l, "", "")
	expectByRules(t, l, "a b", " v ")
	expectByRules(t, l, " n ", "\x00")
	expectByRules(t, l, "n", "\n")
	expectByRules(t, l, "kk", "")
	expectByRules(t, l, "\u00e9", "")
	expectByRules(t, l, "\xFF\xFEz", "")
}

func TestSame(t *testing.T) {
	for _, c := range []struct {
		a, b []api.Header
		want bool
	}{
		{nil, nil, true},
		{nil, []api.Header{}, true},
		{nil, list("", ""), false},
		{list("a", "1"), list("A", " 1\n"), true},
		{list("a", "x"), list("a", "X"), false},
		{list("a", "1"), list("b", "1"), false},
		{list("a", "1", "b", "2"), list("b", "2", "a", "1"), false},
		{list("a", "1", "a", "2"), list("a", "1, 2"), false},
		{list("a", "1"), list("a", "1", "a", "1"), false},
		{list("a", "1 2"), list("a", "1  2"), false},
		{list("a", "\v1"), list("a", "1"), false},
		{list(" a", "1"), list("a", "1"), false},
		{list("\u00e9", "1"), list("\u00c9", "1"), false},
		{list("k", "1"), list("\u212a", "1"), false},
	} {
		if Same(c.a, c.b) != c.want || Same(c.b, c.a) != c.want {
			t.Errorf("P6.1: Same(%q, %q): not %v", c.a, c.b, c.want)
		}
	}
}

func TestGet(t *testing.T) {
	l := list("Vary", " a ", "vary", "", "x", "1,2", "VARY", "\tb, c\r\n", "empty", " \n ")
	for _, c := range []struct {
		name, want string
		ok         bool
	}{
		{"vary", "a, , b, c", true},
		{"vARY", "a, , b, c", true},
		{"X", "1,2", true},
		{"empty", "", true},
		{"none", "", false},
		{"", "", false},
		{"var", "", false},
		{"vary ", "", false},
		{"varyx", "", false},
	} {
		if got, ok := Get(l, c.name); got != c.want || ok != c.ok {
			t.Errorf("P6.2: Get(%q): %q, %v, not %q, %v", c.name, got, ok, c.want, c.ok)
		}
	}
	if got, ok := Get(nil, ""); got != "" || ok {
		t.Errorf("P6.2: Get of nothing: %q, %v", got, ok)
	}
	if got, ok := Get(list("", "v"), ""); got != "v" || !ok {
		t.Errorf("P6.2: Get of a name of nothing: %q, %v", got, ok)
	}
}

func TestSet(t *testing.T) {
	l := list("a", " 1 ", "B", "2", "A", "3", "c", "4", "a", "5")
	for _, c := range []struct {
		name, value string
		want        []api.Header
	}{
		{"A", "x", list("a", "x", "B", "2", "c", "4")},
		{"a", " x\n", list("a", " x\n", "B", "2", "c", "4")},
		{"b", "", list("a", " 1 ", "B", "", "A", "3", "c", "4", "a", "5")},
		{"C", "\x00", list("a", " 1 ", "B", "2", "A", "3", "c", "\x00", "a", "5")},
		{"D", " y ", list("a", " 1 ", "B", "2", "A", "3", "c", "4", "a", "5", "D", " y ")},
		{"", "", list("a", " 1 ", "B", "2", "A", "3", "c", "4", "a", "5", "", "")},
	} {
		if got := Set(l, c.name, c.value); !slices.Equal(got, c.want) {
			t.Errorf("P6.2: Set(%q, %q): %q, not %q", c.name, c.value, got, c.want)
		}
	}
	if got := Set(nil, "A", "1"); !slices.Equal(got, list("A", "1")) {
		t.Errorf("P6.2: Set of nothing: %q", got)
	}
}

func TestNames(t *testing.T) {
	for _, c := range []struct {
		l    []api.Header
		want []string
	}{
		{nil, nil},
		{list("a", ""), []string{"a"}},
		{list("b", "1", "A", "2", "B", "3", "a", "4"), []string{"a", "b"}},
		{list("Z", "", "_", "", "a", "", "-", "", "A0", "", "aa", ""), []string{"-", "_", "a", "a0", "aa", "z"}},
		{list("", "", "\xff", "", "\u00e9", "", "", ""), []string{"", "\u00e9", "\xff"}},
	} {
		if got := Names(c.l...); !slices.Equal(got, c.want) {
			t.Errorf("P6.2: Names(%q): %q, not %q", c.l, got, c.want)
		}
	}
}

// TestAllShortLists goes through all lists of up to four of a few headers.
func TestAllShortLists(t *testing.T) {
	kinds := list("a", "1", "A", " 2", "b", "\n", "B", "x\ry", "", "3", "a b", "\x00")
	lists := [][]api.Header{nil}
	for range 5 {
		var longer [][]api.Header
		for _, l := range lists {
			for _, name := range []string{"a", "B", "c"} {
				expectByRules(t, l, name, " v ")
			}
			for _, h := range kinds {
				longer = append(longer, append(slices.Clone(l), h))
			}
		}
		lists = longer
	}
}

func TestAnswersAreNewMemory(t *testing.T) {
	l := list("a", "1", "b", "2")
	for what, answer := range map[string][]api.Header{"Norm": Norm(l...), "Set of b": Set(l, "b", "2"), "Set of c": Set(l, "c", "3")} {
		for i := range answer {
			answer[i] = api.Header{Name: "changed"}
		}
		if !slices.Equal(l, list("a", "1", "b", "2")) {
			t.Errorf("R4: %s answers with the memory of its argument", what)
		}
	}
	names := Names(l...)
	names[0] = "changed"
	if again := Names(l...); !slices.Equal(again, []string{"a", "b"}) {
		t.Errorf("R4: Names answers with memory that it keeps: %q", again)
	}
}

// TestManyHeaders: lists far beyond MaxHeaders, that all but Check still answer.
func TestManyHeaders(t *testing.T) {
	var l []api.Header
	for i := range 60000 {
		l = append(l, api.Header{Name: "N" + strconv.Itoa(i%50000), Value: " v "})
	}
	if got := Check(l...); got != api.ErrSize {
		t.Errorf("P6.1: Check: %d", got)
	}
	if got := Names(l...); len(got) != 50000 || !slices.IsSorted(got) {
		t.Errorf("P6.2: Names: %d names", len(got))
	}
	if got := Set(l, "n9", "x"); len(got) != 59999 || got[9] != (api.Header{Name: "N9", Value: "x"}) {
		t.Errorf("P6.2: Set: %d headers", len(got))
	}
	if got, ok := Get(l, "n9"); got != "v, v" || !ok {
		t.Errorf("P6.2: Get: %q, %v", got, ok)
	}
	if !Same(l, Norm(l...)) {
		t.Error("P6.1: Same")
	}
}

func TestManyAtOnce(t *testing.T) {
	l := list("b", "1", "A", " 2 ", "B", "3")
	var wait sync.WaitGroup
	for range 8 {
		wait.Go(func() {
			for range 200 {
				got, ok := Get(l, "B")
				if got != "1, 3" || !ok || Check(l...) != api.OK || !Same(l, Norm(l...)) || len(Names(l...)) != 2 || len(Set(l, "b", "x")) != 2 {
					t.Error("R5: answers hang on other goroutines")
				}
			}
		})
	}
	wait.Wait()
}

func FuzzHeader(f *testing.F) {
	f.Add("a", "1", "A", " 2", "a", "x")
	f.Add("", "\x00", "b c", "\n", "B C", "")
	f.Fuzz(func(t *testing.T, n1, v1, n2, v2, name, value string) {
		l := list(n1, v1, n2, v2, n1, v2)
		expectByRules(t, l, name, value)
		expectByRules(t, l, n2, value)
	})
}
