package octet

import (
	"bytes"
	"math"
	"math/big"
	"slices"
	"strconv"
	"strings"
	"sync"
	"testing"
)

const (
	capitals   = "ABCDEFGHIJKLMNOPQRSTUVWXYZ"
	smalls     = "abcdefghijklmnopqrstuvwxyz"
	digits     = "0123456789"
	marks      = "!#$%&'*+-.^_\x60|~"
	whiteSpace = "\x09\x0a\x0d\x20"
)

// oneByte makes a string of a single byte, not of a rune.
func oneByte(c int) string { return string([]byte{byte(c)}) }

func allBytes() string {
	b := make([]byte, 256)
	for c := range b {
		b[c] = byte(c)
	}
	return string(b)
}

// lowerOf is the chapter's rule as a table of pairs.
func lowerOf(c int) int {
	if i := strings.IndexByte(capitals, byte(c)); i >= 0 {
		return int(smalls[i])
	}
	return c
}

func TestLowerOfEachByte(t *testing.T) {
	for c := range 256 {
		if got, want := Lower(oneByte(c)), oneByte(lowerOf(c)); got != want {
			t.Errorf("P1.1: Lower of byte %d: %q, not %q", c, got, want)
		}
	}
}

func TestLowerOfTexts(t *testing.T) {
	for _, c := range []struct{ in, want string }{
		{"", ""},
		{"already small", "already small"},
		{"Content-TYPE", "content-type"},
		{"aBcD", "abcd"},
		{"@AZ[`az{", "@az[`az{"},
		{"\xc3\x89\xff\x00Q", "\xc3\x89\xff\x00q"},
		{"\u0130\u212a", "\u0130\u212a"},
	} {
		if got := Lower(c.in); got != c.want {
			t.Errorf("P1.1: Lower(%q): %q, not %q", c.in, got, c.want)
		}
	}
}

func TestFoldOfEachPairOfBytes(t *testing.T) {
	for a := range 256 {
		for b := range 256 {
			want := lowerOf(a) == lowerOf(b)
			if Fold(oneByte(a), oneByte(b)) != want {
				t.Errorf("P1.1: Fold of bytes %d and %d: not %v", a, b, want)
			}
		}
	}
}

func TestFoldOfTexts(t *testing.T) {
	for _, c := range []struct {
		a, b string
		want bool
	}{
		{"", "", true},
		{"", "a", false},
		{"a", "", false},
		{"OPTIONS", "options", true},
		{"oPtIoNs", "OpTiOnS", true},
		{"abc", "abd", false},
		{"abc", "xbc", false},
		{"abc", "ab", false},
		{"ab", "abc", false},
		{"k", "\u212a", false},
		{"s", "\u017f", false},
		{"\xff", "\xfe", false},
		{"\xffA", "\xffa", true},
	} {
		if Fold(c.a, c.b) != c.want {
			t.Errorf("P1.1: Fold(%q, %q): not %v", c.a, c.b, c.want)
		}
	}
}

func TestTokenOfEachByte(t *testing.T) {
	good := capitals + smalls + digits + marks
	for c := range 256 {
		s := oneByte(c)
		want := strings.Contains(good, s)
		for _, text := range []string{s, s + "a", "a" + s, "a" + s + "a"} {
			if Token(text) != want {
				t.Errorf("P1.1: Token(%q): not %v", text, want)
			}
		}
	}
}

func TestTokenOfTexts(t *testing.T) {
	for _, c := range []struct {
		in   string
		want bool
	}{
		{"", false},
		{"GET", true},
		{"x-y_z.9~", true},
		{marks, true},
		{"a b", false},
		{"a,b", false},
		{" a", false},
		{"a\n", false},
		{"caf\u00e9", false},
		{"a\x00", false},
	} {
		if Token(c.in) != c.want {
			t.Errorf("P1.1: Token(%q): not %v", c.in, c.want)
		}
	}
}

func TestTrimOfEachByte(t *testing.T) {
	for c := range 256 {
		s := oneByte(c)
		bare := !strings.Contains(whiteSpace, s)
		alone, around := "", "a"
		if bare {
			alone, around = s, s+"a"+s
		}
		if got := Trim(s); got != alone {
			t.Errorf("P1.1: Trim of byte %d: %q", c, got)
		}
		if got := Trim(s + "a" + s); got != around {
			t.Errorf("P1.1: Trim of byte %d around a: %q", c, got)
		}
		if got := Trim("a" + s + "a"); got != "a"+s+"a" {
			t.Errorf("P1.1: Trim of byte %d between: %q", c, got)
		}
	}
}

func TestTrimOfTexts(t *testing.T) {
	for _, c := range []struct{ in, want string }{
		{"", ""},
		{whiteSpace, ""},
		{"plain", "plain"},
		{whiteSpace + "a" + whiteSpace, "a"},
		{"  left", "left"},
		{"right\r\n", "right"},
		{" a \t b ", "a \t b"},
		{"\u00a0a\u00a0", "\u00a0a\u00a0"},
		{" \xffa\xff ", "\xffa\xff"},
	} {
		if got := Trim(c.in); got != c.want {
			t.Errorf("P1.1: Trim(%q): %q, not %q", c.in, got, c.want)
		}
	}
}

func TestSplit(t *testing.T) {
	for _, c := range []struct {
		in   string
		want []string
	}{
		{"", nil},
		{",", nil},
		{" ,\t,\r\n, ", nil},
		{" ", nil},
		{"a", []string{"a"}},
		{" a,, b ", []string{"a", "b"}},
		{",a", []string{"a"}},
		{"a,", []string{"a"}},
		{"b,a,b", []string{"b", "a", "b"}},
		{"a b , c\td", []string{"a b", "c\td"}},
		{"\ta\r,\nb ", []string{"a", "b"}},
		{"a;b", []string{"a;b"}},
		{"\"a,b\"", []string{"\"a", "b\""}},
		{"\x0b,\x00,\xff", []string{"\x0b", "\x00", "\xff"}},
		{"A,a", []string{"A", "a"}},
	} {
		if got := Split(c.in); !slices.Equal(got, c.want) {
			t.Errorf("P1.2: Split(%q): %q, not %q", c.in, got, c.want)
		}
	}
}

func TestSplitAtNoOtherByte(t *testing.T) {
	for c := range 256 {
		in := "a" + oneByte(c) + "b"
		want := []string{in}
		if c == 44 {
			want = []string{"a", "b"}
		}
		if got := Split(in); !slices.Equal(got, want) {
			t.Errorf("P1.2: Split(%q): %q, not %q", in, got, want)
		}
	}
}

func TestSplitGivesNewMemory(t *testing.T) {
	const text = "a, b, c"
	first, second := Split(text), Split(text)
	for i := range first {
		first[i] = "changed"
	}
	if !slices.Equal(second, []string{"a", "b", "c"}) || !slices.Equal(Split(text), second) {
		t.Errorf("P1.2, R4: two results of Split share memory: %q", second)
	}
}

func TestJoin(t *testing.T) {
	for _, c := range []struct {
		in   []string
		want string
	}{
		{nil, ""},
		{[]string{}, ""},
		{[]string{""}, ""},
		{[]string{"a"}, "a"},
		{[]string{" a "}, " a "},
		{[]string{"a", "b"}, "a, b"},
		{[]string{"", ""}, ", "},
		{[]string{"a", "", "b"}, "a, , b"},
		{[]string{"", "a", ""}, ", a, "},
		{[]string{"b", "a", "b"}, "b, a, b"},
		{[]string{"a,b", "\xff"}, "a,b, \xff"},
	} {
		if got := Join(c.in...); got != c.want {
			t.Errorf("P1.2: Join(%q): %q, not %q", c.in, got, c.want)
		}
	}
	if got := Join("x", "y", "z"); got != "x, y, z" {
		t.Errorf("P1.2: Join of three: %q", got)
	}
}

func TestJoinLeavesItsArguments(t *testing.T) {
	whole := []string{"a", "b", "beyond", "beyond"}
	if got := Join(whole[:2]...); got != "a, b" {
		t.Errorf("P1.2: Join: %q", got)
	}
	if !slices.Equal(whole, []string{"a", "b", "beyond", "beyond"}) {
		t.Errorf("P1.2, R4: Join changed its arguments: %q", whole)
	}
	one := []string{"a"}
	got := Join(one...)
	one[0] = "later"
	if got != "a" {
		t.Errorf("P1.2, R4: Join keeps its arguments: %q", got)
	}
}

func TestDigits(t *testing.T) {
	const most uint64 = math.MaxUint64
	for _, c := range []struct {
		in   string
		want uint64
		ok   bool
	}{
		{"0", 0, true},
		{"7", 7, true},
		{"007", 7, true},
		{"000", 0, true},
		{"1234567890", 1234567890, true},
		{"18446744073709551609", most - 6, true},
		{"18446744073709551614", most - 1, true},
		{"18446744073709551615", most, true},
		{"18446744073709551616", most, true},
		{"18446744073709551620", most, true},
		{"18446744073709551625", most, true},
		{"99999999999999999999", most, true},
		{"184467440737095516150", most, true},
		{"36893488147419103232", most, true},
		{"340282366920938463463374607431768211456", most, true},
		{strings.Repeat("0", 100) + "42", 42, true},
		{strings.Repeat("9", 1000), most, true},
		{"", 0, false},
		{"-1", 0, false},
		{"+1", 0, false},
		{"1_000", 0, false},
		{"0x10", 0, false},
		{"1.0", 0, false},
		{"1e3", 0, false},
		{" 1", 0, false},
		{"1 ", 0, false},
		{"1\n", 0, false},
		{"a", 0, false},
		{"12a", 0, false},
		{"a12", 0, false},
		{"\u0661", 0, false},
		{"\uff11", 0, false},
		{strings.Repeat("9", 30) + "x", 0, false},
	} {
		if got, ok := Digits(c.in); got != c.want || ok != c.ok {
			t.Errorf("P1.3: Digits(%q): %d, %v, not %d, %v", c.in, got, ok, c.want, c.ok)
		}
	}
}

func TestDigitsOfEachByte(t *testing.T) {
	for c := range 256 {
		s := oneByte(c)
		value := strings.Index(digits, s)
		want, ok := uint64(max(value, 0)), value >= 0
		if got, gotOK := Digits(s); got != want || gotOK != ok {
			t.Errorf("P1.3: Digits of byte %d: %d, %v", c, got, gotOK)
		}
		if _, gotOK := Digits("4" + s + "2"); gotOK != ok {
			t.Errorf("P1.3: Digits of byte %d between: %v", c, gotOK)
		}
	}
}

// Around each power of ten and around the bound, against numbers without one.
func TestDigitsAgainstBigNumbers(t *testing.T) {
	bound := new(big.Int).SetUint64(math.MaxUint64)
	check := func(n *big.Int) {
		want := uint64(math.MaxUint64)
		if n.Cmp(bound) < 0 {
			want = n.Uint64()
		}
		if got, ok := Digits(n.String()); got != want || !ok {
			t.Errorf("P1.3: Digits(%s): %d, %v", n, got, ok)
		}
	}
	for power := range 25 {
		ten := new(big.Int).Exp(big.NewInt(10), big.NewInt(int64(power)), nil)
		for d := int64(-1); d <= 1; d++ {
			if n := new(big.Int).Add(ten, big.NewInt(d)); n.Sign() >= 0 {
				check(n)
			}
		}
	}
	for d := int64(-300); d <= 300; d++ {
		check(new(big.Int).Add(bound, big.NewInt(d)))
	}
}

func TestDigitsOfWrittenNumbers(t *testing.T) {
	for n := uint64(1); n < math.MaxUint64/3; n = n*3 + 1 {
		if got, ok := Digits(strconv.FormatUint(n, 10)); got != n || !ok {
			t.Errorf("P1.3: Digits of %d: %d, %v", n, got, ok)
		}
	}
}

func TestJoinAndSplitUndoEachOther(t *testing.T) {
	for _, l := range [][]string{nil, {"a"}, {"a", "b", "a"}, {"x y", "\xff", "Z"}} {
		if got := Split(Join(l...)); !slices.Equal(got, l) {
			t.Errorf("P1.2: Split(Join(%q...)): %q", l, got)
		}
	}
}

// A megabyte takes time by its length alone, whatever it is made of.
func TestLongTexts(t *testing.T) {
	const size = 1 << 20
	if l := Split(strings.Repeat(",", size)); len(l) != 0 {
		t.Errorf("P1.2: commas: %d parts", len(l))
	}
	if l := Split(strings.Repeat("a, ", size/3)); len(l) != size/3 {
		t.Errorf("P1.2: parts: %d", len(l))
	}
	if s := Join(make([]string, size)...); len(s) != 2*(size-1) {
		t.Errorf("P1.2: Join of empty texts: %d bytes", len(s))
	}
	if Trim(strings.Repeat(" ", size)) != "" || Trim(strings.Repeat(" ", size)+"a") != "a" {
		t.Error("P1.1: Trim of long white space")
	}
	long := strings.Repeat("Ab", size/2)
	if Lower(long) != strings.Repeat("ab", size/2) || !Fold(long, strings.Repeat("aB", size/2)) || !Token(long) {
		t.Error("P1.1: long texts")
	}
	if n, ok := Digits(strings.Repeat("0", size) + "5"); n != 5 || !ok {
		t.Errorf("P1.3: long zeros: %d, %v", n, ok)
	}
	if n, ok := Digits(strings.Repeat("1", size)); n != math.MaxUint64 || !ok {
		t.Errorf("P1.3: long digits: %d, %v", n, ok)
	}
}

func TestManyAtOnce(t *testing.T) {
	text := allBytes()
	lower := string(bytes.Map(func(r rune) rune { return rune(lowerOf(int(r))) }, []byte(text[:128]))) + text[128:]
	var wait sync.WaitGroup
	for range 8 {
		wait.Go(func() {
			for range 200 {
				n, ok := Digits("0042")
				if Lower(text) != lower || !Fold(text, lower) || Token(text) || n != 42 || !ok {
					t.Error("R5: answers hang on other goroutines")
				}
				if Trim(" "+text) != text || Join(Split("a,b")...) != "a, b" {
					t.Error("R5: answers hang on other goroutines")
				}
			}
		})
	}
	wait.Wait()
}
