package origin

import (
	"math"
	"strconv"
	"strings"
	"sync"
	"testing"

	"lockkeeper/api"
)

const hostBytes = "abcdefghijklmnopqrstuvwxyz0123456789-"

func of(scheme, host string, port int) api.Origin {
	return api.Origin{Scheme: scheme, Host: host, Port: port}
}

// longHost makes a host of n bytes out of labels that are as long as they may be.
func longHost(n int) string {
	label := strings.Repeat("a", api.MaxLabel) + "."
	return strings.Repeat(label, n/len(label)+1)[:n]
}

// valid are origins with the two ways to write them.
func valid() []struct {
	o         api.Origin
	show, key string
} {
	edge := longHost(api.MaxHost)
	label := strings.Repeat("b", api.MaxLabel)
	return []struct {
		o         api.Origin
		show, key string
	}{
		{of("http", "a", 80), "http://a", "http://a:80"},
		{of("https", "a", 443), "https://a", "https://a:443"},
		{of("http", "a", 443), "http://a:443", "http://a:443"},
		{of("https", "a", 80), "https://a:80", "https://a:80"},
		{of("https", "a.b", 443), "https://a.b", "https://a.b:443"},
		{of("https", "www.example-site.org", 8443), "https://www.example-site.org:8443", "https://www.example-site.org:8443"},
		{of("http", "127.0.0.1", 8080), "http://127.0.0.1:8080", "http://127.0.0.1:8080"},
		{of("http", "0", 1), "http://0:1", "http://0:1"},
		{of("http", "a--b", 65535), "http://a--b:65535", "http://a--b:65535"},
		{of("http", "xn--a.1-2.z9", 65534), "http://xn--a.1-2.z9:65534", "http://xn--a.1-2.z9:65534"},
		{of("http", label, 80), "http://" + label, "http://" + label + ":80"},
		{of("https", edge, 10000), "https://" + edge + ":10000", "https://" + edge + ":10000"},
	}
}

func TestShowAndKey(t *testing.T) {
	for _, c := range valid() {
		if !Check(c.o) {
			t.Errorf("P3.1: Check(%v): false", c.o)
		}
		if got := Show(c.o); got != c.show {
			t.Errorf("P3.1: Show(%v): %q, not %q", c.o, got, c.show)
		}
		if got := Key(c.o); got != c.key {
			t.Errorf("P3.1: Key(%v): %q, not %q", c.o, got, c.key)
		}
	}
}

func TestWhatIsNotValid(t *testing.T) {
	for _, o := range []api.Origin{
		{},
		of("", "a", 80),
		of("HTTP", "a", 80),
		of("Https", "a", 443),
		of("http ", "a", 80),
		of("httpss", "a", 80),
		of("ws", "a", 80),
		of("http://", "a", 80),
		of("http", "", 80),
		of("http", ".", 80),
		of("http", "a.", 80),
		of("http", ".a", 80),
		of("http", "a..b", 80),
		of("http", "-", 80),
		of("http", "-a", 80),
		of("http", "a-", 80),
		of("http", "a.-b", 80),
		of("http", "a-.b", 80),
		of("http", "A", 80),
		of("http", "a.B", 80),
		of("http", "a_b", 80),
		of("http", "a b", 80),
		of("http", "a:80", 80),
		of("http", "a/", 80),
		of("http", "a\x00", 80),
		of("http", "\xc3\xa9", 80),
		of("http", "[::1]", 80),
		of("http", strings.Repeat("a", api.MaxLabel+1), 80),
		of("http", "b."+strings.Repeat("a", api.MaxLabel+1)+".b", 80),
		of("http", longHost(api.MaxHost+1), 80),
		of("http", strings.Repeat("a.", 1<<20)+"a", 80),
		of("http", "a", 0),
		of("http", "a", -1),
		of("http", "a", -80),
		of("http", "a", 65536),
		of("http", "a", 65536+80),
		of("http", "a", math.MaxInt),
		of("http", "a", math.MinInt),
	} {
		if Check(o) || Show(o) != "" || Key(o) != "" {
			t.Errorf("P3.1: %.80v: %v, %.80q, %.80q", o, Check(o), Show(o), Key(o))
		}
	}
}

// TestEachByteOfAHost puts each byte at the start, in the midst and at the end of a label.
func TestEachByteOfAHost(t *testing.T) {
	for c := range 256 {
		s := string([]byte{byte(c)})
		inside := strings.Contains(hostBytes, s)
		edge := inside && s != "-"
		for host, want := range map[string]bool{s: edge, s + "a": edge, "a" + s: edge, "a" + s + "a": inside || s == "."} {
			if Check(of("http", host, 80)) != want {
				t.Errorf("P3.1: Check with the host %q: not %v", host, want)
			}
		}
	}
}

func TestDefault(t *testing.T) {
	for scheme, want := range map[string]int{"http": 80, "https": 443, "": 0, "HTTP": 0, "Https": 0, "ftp": 0, "http:": 0, " http": 0, "https\x00": 0, "httpsx": 0} {
		if got := Default(scheme); got != want {
			t.Errorf("P3.1: Default(%q): %d, not %d", scheme, got, want)
		}
	}
}

func TestParseOfWhatIsShown(t *testing.T) {
	for _, c := range valid() {
		for _, s := range []string{c.show, c.key, strings.ToUpper(c.show), strings.ToUpper(c.key)} {
			if got, e := Parse(s); got != c.o || e != api.OK {
				t.Errorf("P3.2: Parse(%q): %v, %d, not %v", s, got, e, c.o)
			}
		}
	}
}

func TestParseOfEachPort(t *testing.T) {
	for port := range 100001 {
		s := "http://a:" + strconv.Itoa(port)
		want, code := of("http", "a", port), api.OK
		if port < 1 || port > 65535 {
			want, code = api.Origin{}, api.ErrForm
		}
		if got, e := Parse(s); got != want || e != code {
			t.Errorf("P3.2: Parse(%q): %v, %d", s, got, e)
		}
	}
}

func TestParseOfMixedCase(t *testing.T) {
	got, e := Parse("hTTpS://A.b-C.Z9:443")
	if got != of("https", "a.b-c.z9", 443) || e != api.OK {
		t.Errorf("P3.2: %v, %d", got, e)
	}
	if Show(got) != "https://a.b-c.z9" || Key(got) != "https://a.b-c.z9:443" {
		t.Errorf("P3.1: %q, %q", Show(got), Key(got))
	}
}

func TestParseOfWhatIsNoOrigin(t *testing.T) {
	for _, s := range []string{
		"", "http", "http:", "http:/", "http://", "://", "://a", ":80", "a", "a:80", "//a",
		"http:a", "http:/a", "http//a", "http:///a", "http:// a", " http://a", "http://a ", "http ://a",
		"ftp://a", "ws://a:80", "http\x00://a", "httpx://a:1",
		"http://:80", "http://a:", "http://a::80", "http://a:1:2", "http://a:80:",
		"http://a:080", "http://a:0080", "http://a:00001", "http://a:0", "http://a:00",
		"http://a:65536", "http://a:99999", "http://a:100000", "http://a:000080", "http://a:18446744073709551616", "http://a:18446744073709551617",
		"http://a:+80", "http://a:-80", "http://a: 80", "http://a:80 ", "http://a:8o", "http://a:0x50", "http://a:8_0", "http://a:\xd9\xa8",
		"http://a.", "http://.a", "http://a..b", "http://-a", "http://a-", "http://a.-b:1", "http://a_b", "http://a%62",
		"http://a/", "http://a/b", "http://a?b", "http://a#b", "http://u@a", "http://[::1]", "http://[::1]:80", "http://a://b", "http://http://a",
		"http://\xc3\xa9", "http://\xe2\x84\xaa", "http://a\n",
		"http://" + strings.Repeat("a", api.MaxLabel+1),
		"http://" + longHost(api.MaxHost+1),
	} {
		if got, e := Parse(s); got != (api.Origin{}) || e != api.ErrForm {
			t.Errorf("P3.2: Parse(%q): %v, %d", s, got, e)
		}
	}
}

func TestParseOfLongTexts(t *testing.T) {
	for _, c := range []struct {
		s    string
		want api.Errno
	}{
		{strings.Repeat("a", api.MaxURL), api.ErrForm},
		{strings.Repeat("a", api.MaxURL+1), api.ErrSize},
		{"http://" + longHost(api.MaxURL-7), api.ErrForm},
		{"http://" + longHost(api.MaxURL-6), api.ErrSize},
		{"http://a:" + strings.Repeat("1", api.MaxURL-9), api.ErrForm},
		{"http://a:" + strings.Repeat("1", api.MaxURL-8), api.ErrSize},
		{strings.Repeat("http://a", 1<<20), api.ErrSize},
	} {
		if got, e := Parse(c.s); got != (api.Origin{}) || e != c.want {
			t.Errorf("P3.2: Parse of %d bytes: %v, %d, not %d", len(c.s), got, e, c.want)
		}
	}
}

func TestByManyAtOnce(t *testing.T) {
	var all sync.WaitGroup
	for range 8 {
		all.Go(func() {
			for _, c := range valid() {
				if o, e := Parse(c.key); o != c.o || e != api.OK || Show(o) != c.show || Key(o) != c.key {
					t.Errorf("R5: %q by several goroutines: %v, %d", c.key, o, e)
				}
			}
		})
	}
	all.Wait()
}

func FuzzParse(f *testing.F) {
	f.Add("HTTPS://A.b:443")
	f.Add("http://a:080")
	f.Fuzz(func(t *testing.T, s string) {
		o, e := Parse(s)
		if (e == api.OK) != Check(o) {
			t.Fatalf("P3.2: Parse(%q): %v, %d", s, o, e)
		}
		if e != api.OK {
			return
		}
		for _, shown := range []string{Show(o), Key(o)} {
			if again, e := Parse(shown); again != o || e != api.OK {
				t.Errorf("P3.2: Parse(%q): %v, %d", shown, again, e)
			}
		}
	})
}
