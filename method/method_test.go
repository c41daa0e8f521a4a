package method

import (
	"slices"
	"strings"
	"sync"
	"testing"

	"lockkeeper/api"
)

const tokenBytes = "abcdefghijklmnopqrstuvwxyzABCDEFGHIJKLMNOPQRSTUVWXYZ0123456789!#$%&'*+-.^_\x60|~"

func oneByte(c int) string { return string([]byte{byte(c)}) }

// usualNames, barredNames and safeNames are the chapter's lists.
func usualNames() []string {
	return []string{"DELETE", "GET", "HEAD", "OPTIONS", "POST", "PUT"}
}

func barredNames() []string { return []string{"CONNECT", "TRACE", "TRACK"} }

func safeNames() []string { return []string{"GET", "HEAD", "POST"} }

// eachCase calls do with s in all its mixes of capitals and small letters.
func eachCase(s string, do func(string)) {
	for mix := range 1 << len(s) {
		b := []byte(strings.ToUpper(s))
		for i := range b {
			if mix>>i&1 == 1 {
				b[i] += 'a' - 'A'
			}
		}
		do(string(b))
	}
}

// expect holds all four calls against what is known of s.
func expect(t *testing.T, s, norm string, bars, safe bool, code api.Errno) {
	t.Helper()
	if got := Norm(s); got != norm {
		t.Errorf("P5.1: Norm(%.80q): %.80q, not %.80q", s, got, norm)
	}
	if Bars(s) != bars {
		t.Errorf("P5.1: Bars(%.80q): not %v", s, bars)
	}
	if Safe(s) != safe {
		t.Errorf("P5.1: Safe(%.80q): not %v", s, safe)
	}
	if got := Check(s); got != code {
		t.Errorf("P5.1: Check(%.80q): %d, not %d", s, got, code)
	}
}

// expectByRules works out what is asked of s by the words of the chapter. It is
// for texts of ASCII bytes alone: strings.Map changes bytes that are no runes.
func expectByRules(t *testing.T, s string) {
	t.Helper()
	upper := strings.Map(func(r rune) rune {
		if r >= 'a' && r <= 'z' {
			return r - 32
		}
		return r
	}, s)
	norm := s
	if slices.Contains(usualNames(), upper) {
		norm = upper
	}
	bars := slices.Contains(barredNames(), upper)
	code := api.ErrMethod
	if s != "" && strings.Trim(s, tokenBytes) == "" && len(s) <= 32 && !bars {
		code = api.OK
	}
	expect(t, s, norm, bars, slices.Contains(safeNames(), norm), code)
}

func TestExamples(t *testing.T) {
	if Norm("get") != "GET" || Norm("Patch") != "Patch" || Check("tRace") != api.ErrMethod {
		t.Errorf("P5.1: the examples: %q, %q, %d", Norm("get"), Norm("Patch"), Check("tRace"))
	}
}

func TestUsualMethodsInEachCase(t *testing.T) {
	for _, m := range usualNames() {
		safe := slices.Contains(safeNames(), m)
		eachCase(m, func(s string) { expect(t, s, m, false, safe, api.OK) })
	}
}

func TestBarredMethodsInEachCase(t *testing.T) {
	for _, m := range barredNames() {
		eachCase(m, func(s string) { expect(t, s, s, true, false, api.ErrMethod) })
	}
}

func TestOtherMethodsStay(t *testing.T) {
	for _, s := range []string{
		"PATCH", "patch", "Patch", "pAtCh", "PROPFIND", "query", "QUERY",
		"a", "Z", "0", "-", "*", "~", "!#$%&'*+-.^_`|~",
		"GE", "ET", "GETS", "xGET", "GETGET", "G-E-T", "GET.", "HEADER", "POS", "POSTS", "PU", "PUTS", "DELET", "DELETED", "OPTION", "DEL",
		"CONNEC", "CONNECTS", "ONNECT", "TRAC", "TRACED", "TRACKS", "TRACER", "XTRACE", "TRACE-TRACK", "TRACETRACK",
	} {
		expect(t, s, s, false, false, api.OK)
	}
}

func TestWhatIsNoToken(t *testing.T) {
	for _, s := range []string{
		"", " ", "\x00", " GET", "GET ", "G ET", "GET\n", "\tget", "GET,POST", "GET, HEAD", "GET/1", "\"GET\"", "(get)", "get\x00",
		"TRACE ", " TRACE", "TRACE\x00", "TRACE,TRACK", "CONNECT:", "a b", "caf\u00e9", "\xff", "GET\xff",
		"O\u017fTIONS", "PO\u017fT", "TRAC\u212a", "\uff27\uff25\uff34",
	} {
		expect(t, s, s, false, false, api.ErrMethod)
	}
}

// TestEachByte puts each byte into the place of each letter of a known method,
// ahead of it, behind it, and alone.
func TestEachByte(t *testing.T) {
	for c := range 256 {
		s := oneByte(c)
		code := api.ErrMethod
		if strings.Contains(tokenBytes, s) {
			code = api.OK
		}
		expect(t, s, s, false, false, code)
		for _, m := range slices.Concat(usualNames(), barredNames()) {
			expect(t, s+m, s+m, false, false, code)
			expect(t, m+s, m+s, false, false, code)
			for i := range len(m) {
				if c < 128 {
					expectByRules(t, m[:i]+s+m[i+1:])
				} else {
					other := m[:i] + s + m[i+1:]
					expect(t, other, other, false, false, code)
				}
			}
		}
	}
}

// TestAllShortTexts goes through the texts of a few letters that known methods
// begin with.
func TestAllShortTexts(t *testing.T) {
	texts := []string{""}
	for range 6 {
		var longer []string
		for _, s := range texts {
			expectByRules(t, s)
			for _, c := range "gEtTpUo " {
				longer = append(longer, s+string(c))
			}
		}
		texts = longer
	}
}

func TestEdgesOfLength(t *testing.T) {
	for size := range 2 * api.MaxMethod {
		code := api.OK
		if size == 0 || size > 32 {
			code = api.ErrMethod
		}
		for _, c := range []string{"a", "A", "9", "~"} {
			s := strings.Repeat(c, size)
			expect(t, s, s, false, false, code)
		}
	}
	for _, s := range []string{
		strings.Repeat("a", 31) + " ",
		strings.Repeat("a", 31) + "\u00e9",
		strings.Repeat("\u00e9", 16),
		"GET" + strings.Repeat(" ", 30),
		strings.Repeat("GET", 11),
		strings.Repeat("TRACE", 7),
		strings.Repeat("a", 1<<8+3),
		strings.Repeat("a", 1<<16+3),
		strings.Repeat("GET", 1<<20),
	} {
		expect(t, s, s, false, false, api.ErrMethod)
	}
}

func TestNormOfItsOwnAnswer(t *testing.T) {
	for _, s := range []string{"get", "Patch", "tRace", "", " put", "DELETE"} {
		if once := Norm(s); Norm(once) != once {
			t.Errorf("P5.1: Norm(%q): %q, not itself", once, Norm(once))
		}
	}
}

func TestManyAtOnce(t *testing.T) {
	var wait sync.WaitGroup
	for range 8 {
		wait.Go(func() {
			for range 200 {
				if Norm("oPtions") != "OPTIONS" || Norm("patch") != "patch" || !Bars("Track") || Check("put") != api.OK || Check("a b") != api.ErrMethod || !Safe("head") || Safe("put") {
					t.Error("R5: answers hang on other goroutines")
				}
			}
		})
	}
	wait.Wait()
}

func FuzzMethod(f *testing.F) {
	f.Add("get")
	f.Add("tRace")
	f.Add("Patch")
	f.Fuzz(func(t *testing.T, s string) {
		for i := range len(s) {
			if s[i] >= 128 {
				expect(t, s, s, false, false, api.ErrMethod)
				return
			}
		}
		expectByRules(t, s)
	})
}
