package cache

import (
	"cmp"
	"math"
	"slices"
	"strconv"
	"strings"
	"sync"
	"testing"

	"lockkeeper/api"
)

const last uint64 = math.MaxUint64

// plain and own are cells that only credentials tell apart.
func plain() api.Cell { return api.Cell{Origin: "http://a", URL: "http://b/"} }

func own() api.Cell { return api.Cell{Origin: "http://a", URL: "http://b/", Creds: true} }

// forMethod and forHeader are entries.
func forMethod(cell api.Cell, m string, until uint64) api.Entry {
	return api.Entry{Cell: cell, Method: m, Until: until}
}

func forHeader(cell api.Cell, name string, until uint64) api.Entry {
	return api.Entry{Cell: cell, Header: name, Until: until}
}

func oneByte(c int) string { return string([]byte{byte(c)}) }

// show writes entries for a message.
func show(list []api.Entry) string {
	var out strings.Builder
	for _, e := range list {
		out.WriteString(" {" + strconv.Quote(e.Cell.Origin) + " " + strconv.Quote(e.Cell.URL) + " " + strconv.FormatBool(e.Cell.Creds))
		out.WriteString(" " + strconv.Quote(e.Method) + " " + strconv.Quote(e.Header) + " " + strconv.FormatUint(e.Until, 10) + "}")
	}
	return out.String()
}

// what is an entry without its time.
type what struct {
	cell         api.Cell
	method, name string
}

func whatOf(e api.Entry) what { return what{e.Cell, e.Method, e.Header} }

// slow is a cache by the words of the chapter: for each entry its time, and when it was appended.
type slow struct {
	most, turn int
	until      map[what]uint64
	came       map[what]int
}

func newSlow(most int) *slow {
	switch {
	case most < 1:
		most = 1
	case most > 64:
		most = 64
	}
	return &slow{most: most, until: map[what]uint64{}, came: map[what]int{}}
}

// inOrder returns what the cache holds, in order.
func (s *slow) inOrder() []what {
	var list []what
	for w := range s.until {
		list = append(list, w)
	}
	slices.SortFunc(list, func(a, b what) int { return cmp.Compare(s.came[a], s.came[b]) })
	return list
}

func (s *slow) entries() []api.Entry {
	var list []api.Entry
	for _, w := range s.inOrder() {
		list = append(list, api.Entry{Cell: w.cell, Method: w.method, Header: w.name, Until: s.until[w]})
	}
	return list
}

// drop removes what is meant, and returns how many there were.
func (s *slow) drop(meant func(what) bool) int {
	gone := 0
	for _, w := range s.inOrder() {
		if meant(w) {
			delete(s.until, w)
			delete(s.came, w)
			gone++
		}
	}
	return gone
}

func (s *slow) sweep(now uint64) int {
	return s.drop(func(w what) bool { return !(s.until[w] > now) })
}

func (s *slow) clear(cell api.Cell) int {
	return s.drop(func(w what) bool { return w.cell == cell })
}

func (s *slow) put(e api.Entry, now uint64) bool {
	fields := 0
	if e.Method != "" {
		fields++
	}
	if e.Header != "" {
		fields++
	}
	if fields != 1 || !(e.Until > now) {
		return false
	}
	s.sweep(now)
	if _, in := s.until[whatOf(e)]; !in {
		if len(s.until) == s.most {
			soonest := slices.MinFunc(s.inOrder(), func(a, b what) int { return cmp.Compare(s.until[a], s.until[b]) })
			s.drop(func(w what) bool { return w == soonest })
		}
		s.turn++
		s.came[whatOf(e)] = s.turn
	}
	s.until[whatOf(e)] = e.Until
	return true
}

// lets tells whether there is this very entry, not expired.
func (s *slow) lets(w what, now uint64) bool {
	until, in := s.until[w]
	return in && until > now
}

func (s *slow) method(cell api.Cell, m string, now uint64) bool {
	return m != "" && s.lets(what{cell, m, ""}, now) || !cell.Creds && s.lets(what{cell, "*", ""}, now)
}

// small is s with small letters.
func small(s string) string {
	out := []byte(s)
	for i, c := range out {
		if c >= 'A' && c <= 'Z' {
			out[i] = c + 32
		}
	}
	return string(out)
}

func (s *slow) header(cell api.Cell, name string, now uint64) bool {
	if name != "" && s.lets(what{cell, "", small(name)}, now) {
		return true
	}
	return !cell.Creds && small(name) != "authorization" && s.lets(what{cell, "", "*"}, now)
}

func (s *slow) covers(cell api.Cell, m string, names []string, now uint64) bool {
	if !slices.Contains([]string{"get", "head", "post"}, small(m)) && !s.method(cell, m, now) {
		return false
	}
	for _, name := range names {
		if !s.header(cell, name, now) {
			return false
		}
	}
	return true
}

// pair is a cache and what it should be; each call is made on both.
type pair struct {
	t *testing.T
	c *Cache
	s *slow
}

func newPair(t *testing.T, most int) pair { return pair{t, New(most), newSlow(most)} }

func (p pair) put(e api.Entry, now uint64) {
	p.t.Helper()
	if got, want := p.c.Put(e, now), p.s.put(e, now); got != want {
		p.t.Fatalf("P16.1: Put(%s, %d): %v, not %v", show([]api.Entry{e}), now, got, want)
	}
	p.agree()
}

func (p pair) sweep(now uint64) {
	p.t.Helper()
	if got, want := p.c.Sweep(now), p.s.sweep(now); got != want {
		p.t.Fatalf("P16.1: Sweep(%d): %d, not %d", now, got, want)
	}
	p.agree()
}

func (p pair) clear(cell api.Cell) {
	p.t.Helper()
	if got, want := p.c.Clear(cell), p.s.clear(cell); got != want {
		p.t.Fatalf("P16.1: Clear(%q %q %v): %d, not %d", cell.Origin, cell.URL, cell.Creds, got, want)
	}
	p.agree()
}

func (p pair) agree() {
	p.t.Helper()
	if got, want := p.c.Entries(), p.s.entries(); !slices.Equal(got, want) {
		p.t.Fatalf("P16.1: Entries():%s, not%s", show(got), show(want))
	}
}

// ask holds the three questions of P16.2 against their slow ones, and that they change nothing.
func (p pair) ask(cell api.Cell, now uint64, texts ...string) {
	p.t.Helper()
	for _, text := range texts {
		if got, want := p.c.Method(cell, text, now), p.s.method(cell, text, now); got != want {
			p.t.Fatalf("P16.2: Method(%v, %.80q, %d): not %v;%s", cell.Creds, text, now, want, show(p.c.Entries()))
		}
		if got, want := p.c.Header(cell, text, now), p.s.header(cell, text, now); got != want {
			p.t.Fatalf("P16.2: Header(%v, %.80q, %d): not %v;%s", cell.Creds, text, now, want, show(p.c.Entries()))
		}
		for _, names := range [][]string{nil, texts[:1], {text}, {text, text}, texts} {
			before := slices.Clone(names)
			if got, want := p.c.Covers(cell, text, names, now), p.s.covers(cell, text, names, now); got != want {
				p.t.Fatalf("P16.2: Covers(%v, %.80q, %.80q, %d): not %v;%s", cell.Creds, text, names, now, want, show(p.c.Entries()))
			}
			if !slices.Equal(names, before) {
				p.t.Fatalf("R4: Covers made %.80q of %.80q", names, before)
			}
		}
	}
	p.agree()
}

// filled is a cache of these entries, all of which are put at time 0.
func filled(t *testing.T, most int, list ...api.Entry) *Cache {
	t.Helper()
	c := New(most)
	for _, e := range list {
		wantPut(t, c, e, 0, true)
	}
	return c
}

func wantPut(t *testing.T, c *Cache, e api.Entry, now uint64, want bool) {
	t.Helper()
	if got := c.Put(e, now); got != want {
		t.Errorf("P16.1: Put(%s, %d): %v, not %v", show([]api.Entry{e}), now, got, want)
	}
}

func wantEntries(t *testing.T, c *Cache, want ...api.Entry) {
	t.Helper()
	if got := c.Entries(); !slices.Equal(got, want) {
		t.Errorf("P16.1: Entries():%s, not%s", show(got), show(want))
	}
}

func TestExample(t *testing.T) {
	c := New(1)
	wantPut(t, c, forMethod(plain(), "PUT", 5), 3, true)
	if !c.Method(plain(), "PUT", 4) || c.Method(plain(), "PUT", 5) {
		t.Error("P16.1, P16.2: the chapter's example")
	}
}

func TestNewIsEmpty(t *testing.T) {
	for _, most := range []int{math.MinInt, -1, 0, 1, 5, 64, 65, math.MaxInt} {
		c := New(most)
		if c == nil {
			t.Fatalf("P16.1: New(%d): nil", most)
		}
		if len(c.Entries()) != 0 || c.Sweep(last) != 0 || c.Clear(api.Cell{}) != 0 {
			t.Errorf("P16.1: New(%d) has entries", most)
		}
		if c.Method(plain(), "PUT", 0) || c.Header(plain(), "x", 0) || c.Covers(plain(), "PUT", nil, 0) || !c.Covers(plain(), "GET", nil, 0) {
			t.Errorf("P16.2: New(%d) permits something", most)
		}
	}
}

func TestMost(t *testing.T) {
	for _, x := range []struct{ most, want int }{
		{math.MinInt, 1}, {-64, 1}, {-1, 1}, {0, 1}, {1, 1}, {2, 2}, {3, 3}, {32, 32},
		{63, 63}, {64, 64}, {65, 64}, {128, 64}, {1 << 32, 64}, {math.MaxInt, 64},
	} {
		c := New(x.most)
		for n := range 130 {
			wantPut(t, c, forMethod(plain(), "m"+strconv.Itoa(n), uint64(n+1)), 0, true)
			if got := len(c.Entries()); got != min(n+1, x.want) {
				t.Fatalf("P16.1: New(%d) after %d entries: %d", x.most, n+1, got)
			}
		}
		if first := c.Entries()[0]; first.Until != uint64(130-x.want+1) {
			t.Errorf("P16.1: New(%d): the first entry left is that of %d", x.most, first.Until)
		}
	}
	if api.MaxCache != 64 {
		t.Error("package api is changed")
	}
}

// Refused entries change nothing, not even what is expired goes.
func TestRefused(t *testing.T) {
	old := []api.Entry{forMethod(plain(), "PUT", 3), forHeader(own(), "x", 9)}
	c := filled(t, 2, old...)
	for _, x := range []struct {
		e   api.Entry
		now uint64
	}{
		{api.Entry{}, 5},
		{api.Entry{Cell: plain()}, 5},
		{api.Entry{Cell: plain(), Until: 9}, 5},
		{api.Entry{Cell: plain(), Method: "PUT", Header: "x", Until: 9}, 5},
		{api.Entry{Cell: own(), Method: "x", Header: "x", Until: last}, 0},
		{api.Entry{Cell: own(), Method: "*", Header: "*", Until: last}, 5},
		{forMethod(plain(), "PUT", 5), 5},
		{forMethod(plain(), "PUT", 4), 5},
		{forMethod(plain(), "PUT", 0), 5},
		{forMethod(plain(), "PUT", 0), 0},
		{forHeader(own(), "x", 9), 9},
		{forHeader(own(), "x", last-1), last},
		{forHeader(own(), "x", last), last},
		{forMethod(plain(), "new", 99), 99},
		{forHeader(plain(), "new", 99), 100},
	} {
		wantPut(t, c, x.e, x.now, false)
		wantEntries(t, c, old...)
	}
	wantPut(t, c, forMethod(plain(), "new", 99), 98, true)
	wantEntries(t, c, forMethod(plain(), "new", 99))
}

func TestPutRemovesExpiredFirst(t *testing.T) {
	list := []api.Entry{forMethod(plain(), "a", 5), forHeader(plain(), "b", 7), forMethod(own(), "c", 6), forHeader(own(), "d", 8)}
	for _, x := range []struct {
		e    api.Entry
		now  uint64
		want []api.Entry
	}{
		{forMethod(plain(), "e", 9), 4, []api.Entry{list[1], list[2], list[3], forMethod(plain(), "e", 9)}},
		{forMethod(plain(), "e", 9), 5, []api.Entry{list[1], list[2], list[3], forMethod(plain(), "e", 9)}},
		{forMethod(plain(), "e", 9), 6, []api.Entry{list[1], list[3], forMethod(plain(), "e", 9)}},
		{forMethod(plain(), "e", 9), 7, []api.Entry{list[3], forMethod(plain(), "e", 9)}},
		{forMethod(plain(), "e", 9), 8, []api.Entry{forMethod(plain(), "e", 9)}},
		// Also where it needs no room.
		{forHeader(own(), "d", 20), 6, []api.Entry{list[1], forHeader(own(), "d", 20)}},
		// What is expired is not found again: the new one is the last.
		{forMethod(plain(), "a", 20), 4, []api.Entry{forMethod(plain(), "a", 20), list[1], list[2], list[3]}},
		{forMethod(plain(), "a", 20), 5, []api.Entry{list[1], list[2], list[3], forMethod(plain(), "a", 20)}},
		{forMethod(own(), "c", 20), 6, []api.Entry{list[1], list[3], forMethod(own(), "c", 20)}},
	} {
		c := filled(t, 4, list...)
		wantPut(t, c, x.e, x.now, true)
		wantEntries(t, c, x.want...)
	}
}

// An entry that the cache has gets the new time, an earlier one too, stays at its place, and removes none.
func TestPutAgain(t *testing.T) {
	list := []api.Entry{forMethod(plain(), "a", 5), forHeader(plain(), "a", 7), forMethod(own(), "a", 6)}
	for place, e := range list {
		for _, until := range []uint64{1, 4, e.Until, 8, 100, last} {
			c := filled(t, 3, list...)
			e.Until = until
			wantPut(t, c, e, 0, true)
			want := slices.Clone(list)
			want[place] = e
			wantEntries(t, c, want...)
		}
	}
	c := filled(t, 3, list...)
	wantPut(t, c, forMethod(plain(), "a", 9), 0, true)
	wantPut(t, c, forMethod(plain(), "b", 10), 0, true)
	wantEntries(t, c, forMethod(plain(), "a", 9), list[1], forMethod(plain(), "b", 10))
}

// What makes two entries one: the cell, the method, the header, byte by byte, and not the time.
func TestSame(t *testing.T) {
	list := []api.Entry{
		forMethod(plain(), "a", 5), forHeader(plain(), "a", 5), forMethod(own(), "a", 5), forHeader(own(), "a", 5),
		forMethod(plain(), "A", 5), forHeader(plain(), "A", 5), forMethod(plain(), " a", 5), forMethod(plain(), "a\x00", 5),
		forMethod(plain(), "*", 5), forHeader(plain(), "*", 5), forMethod(plain(), "\xff", 5), forMethod(api.Cell{}, "a", 5),
		forMethod(api.Cell{Creds: true}, "a", 5), forMethod(api.Cell{Origin: "http://a"}, "a", 5), forMethod(api.Cell{URL: "http://a"}, "a", 5),
		forMethod(api.Cell{Origin: "http://b/", URL: "http://a"}, "a", 5), forMethod(api.Cell{Origin: "http://A", URL: "http://b/"}, "a", 5),
		forMethod(api.Cell{Origin: "http://a", URL: "http://b"}, "a", 5), forMethod(api.Cell{Origin: "http://ah", URL: "ttp://b/"}, "a", 5),
	}
	c := filled(t, 64, list...)
	wantEntries(t, c, list...)
	for i, e := range list {
		e.Until = uint64(10 + i)
		wantPut(t, c, e, 1, true)
		list[i] = e
	}
	wantEntries(t, c, list...)
}

func TestSmallestUntilGoes(t *testing.T) {
	fresh := forHeader(own(), "new", 50)
	for _, x := range []struct {
		untils []uint64
		place  int
	}{
		{[]uint64{5, 6, 7}, 0}, {[]uint64{6, 5, 7}, 1}, {[]uint64{7, 6, 5}, 2},
		{[]uint64{5, 5, 5}, 0}, {[]uint64{6, 5, 5}, 1}, {[]uint64{5, 6, 5}, 0}, {[]uint64{5, 5, 6}, 0},
		// Also where the new one is the smallest, or all are the greatest there are.
		{[]uint64{60, 70, 55}, 2}, {[]uint64{last, last, last}, 0}, {[]uint64{last, last - 1, last}, 1}, {[]uint64{last, 1 << 63, 1<<63 - 1}, 2},
		{[]uint64{9}, 0}, {[]uint64{90}, 0}, {[]uint64{8, 7}, 1},
	} {
		var list []api.Entry
		for i, until := range x.untils {
			list = append(list, forMethod(plain(), strconv.Itoa(i), until))
		}
		c := filled(t, len(list), list...)
		wantPut(t, c, fresh, 4, true)
		wantEntries(t, c, append(slices.Delete(list, x.place, x.place+1), fresh)...)
	}
}

// The first of several is the one that stands first, not the one whose time was set first.
func TestFirstIsByPlace(t *testing.T) {
	c := filled(t, 3, forMethod(plain(), "a", 9), forMethod(plain(), "b", 5), forMethod(plain(), "c", 6))
	wantPut(t, c, forMethod(plain(), "a", 5), 0, true)
	wantPut(t, c, forMethod(plain(), "d", 7), 0, true)
	wantEntries(t, c, forMethod(plain(), "b", 5), forMethod(plain(), "c", 6), forMethod(plain(), "d", 7))
	wantPut(t, c, forMethod(plain(), "b", 8), 0, true)
	wantPut(t, c, forMethod(plain(), "e", 6), 0, true)
	wantPut(t, c, forMethod(plain(), "f", 9), 0, true)
	wantEntries(t, c, forMethod(plain(), "b", 8), forMethod(plain(), "d", 7), forMethod(plain(), "f", 9))
}

// No room is made where what is expired has left some.
func TestExpiredMakeRoom(t *testing.T) {
	c := filled(t, 2, forMethod(plain(), "a", 20), forMethod(plain(), "b", 5))
	wantPut(t, c, forMethod(plain(), "c", 30), 5, true)
	wantEntries(t, c, forMethod(plain(), "a", 20), forMethod(plain(), "c", 30))
}

func TestSweep(t *testing.T) {
	list := []api.Entry{forMethod(plain(), "a", 5), forHeader(own(), "b", 7), forMethod(own(), "c", 5), forHeader(plain(), "d", last), forMethod(plain(), "e", 1)}
	for _, x := range []struct {
		now  uint64
		want []api.Entry
	}{
		{0, list}, {1, list[:4]}, {4, list[:4]}, {5, []api.Entry{list[1], list[3]}}, {6, []api.Entry{list[1], list[3]}},
		{7, list[3:4]}, {last - 1, list[3:4]}, {last, nil},
	} {
		c := filled(t, 5, list...)
		wantEntries(t, c, list...)
		if got := c.Sweep(x.now); got != len(list)-len(x.want) {
			t.Errorf("P16.1: Sweep(%d): %d, not %d", x.now, got, len(list)-len(x.want))
		}
		wantEntries(t, c, x.want...)
		if got := c.Sweep(x.now); got != 0 {
			t.Errorf("P16.1: Sweep(%d) again: %d", x.now, got)
		}
	}
}

// Clear knows no time: what is expired goes and counts with the others.
func TestClear(t *testing.T) {
	list := []api.Entry{forMethod(plain(), "a", 5), forHeader(own(), "b", 7), forHeader(plain(), "*", 1), forMethod(own(), "c", 5), forMethod(api.Cell{}, "e", 1)}
	for _, x := range []struct {
		cell api.Cell
		gone int
		want []api.Entry
	}{
		{plain(), 2, []api.Entry{list[1], list[3], list[4]}},
		{own(), 2, []api.Entry{list[0], list[2], list[4]}},
		{api.Cell{}, 1, list[:4]},
		{api.Cell{Creds: true}, 0, list},
		{api.Cell{Origin: "http://a"}, 0, list},
		{api.Cell{URL: "http://b/"}, 0, list},
		{api.Cell{Origin: "http://a", URL: "http://B/"}, 0, list},
		{api.Cell{Origin: "*", URL: "*"}, 0, list},
	} {
		c := filled(t, 5, list...)
		for _, gone := range []int{x.gone, 0} {
			if got := c.Clear(x.cell); got != gone {
				t.Errorf("P16.1: Clear(%q %q %v): %d, not %d", x.cell.Origin, x.cell.URL, x.cell.Creds, got, gone)
			}
			wantEntries(t, c, x.want...)
		}
	}
}

// Expired entries stay where they are until something removes them, and permit nothing meanwhile.
func TestExpiredStay(t *testing.T) {
	list := []api.Entry{forMethod(plain(), "PUT", 5), forHeader(plain(), "x", 5), forMethod(plain(), "*", 6), forHeader(plain(), "*", 6)}
	c := filled(t, 4, list...)
	for _, x := range []struct {
		now  uint64
		want bool
	}{{0, true}, {5, true}, {6, false}, {7, false}, {last, false}, {5, true}, {4, true}} {
		if c.Method(plain(), "PUT", x.now) != x.want || c.Header(plain(), "x", x.now) != x.want || c.Covers(plain(), "PUT", []string{"x"}, x.now) != x.want {
			t.Errorf("P16.2: at %d: not %v", x.now, x.want)
		}
		wantEntries(t, c, list...)
	}
}

func TestMethod(t *testing.T) {
	for _, x := range []struct {
		e    api.Entry
		cell api.Cell
		m    string
		want bool
	}{
		{forMethod(plain(), "PUT", 5), plain(), "PUT", true},
		{forMethod(own(), "PUT", 5), own(), "PUT", true},
		{forMethod(plain(), "PUT", 5), own(), "PUT", false},
		{forMethod(own(), "PUT", 5), plain(), "PUT", false},
		{forMethod(plain(), "PUT", 5), api.Cell{Origin: "http://a", URL: "http://b/x"}, "PUT", false},
		{forMethod(plain(), "PUT", 5), api.Cell{Origin: "http://b", URL: "http://b/"}, "PUT", false},
		{forMethod(plain(), "PUT", 5), plain(), "put", false},
		{forMethod(plain(), "put", 5), plain(), "PUT", false},
		{forMethod(plain(), "put", 5), plain(), "put", true},
		{forMethod(plain(), "PUT", 5), plain(), "PU", false},
		{forMethod(plain(), "PUT", 5), plain(), "PUTT", false},
		{forMethod(plain(), "PUT", 5), plain(), " PUT", false},
		{forMethod(plain(), "PUT", 5), plain(), "*", false},
		{forMethod(plain(), "PUT", 5), plain(), "", false},
		{forMethod(plain(), "PUT", 5), plain(), "GET", false},
		{forHeader(plain(), "PUT", 5), plain(), "PUT", false},
		{forHeader(plain(), "put", 5), plain(), "put", false},
		{forHeader(plain(), "*", 5), plain(), "PUT", false},
		{forHeader(plain(), "*", 5), plain(), "*", false},
		{forHeader(plain(), "x", 5), plain(), "", false},
		{forMethod(plain(), "*", 5), plain(), "PUT", true},
		{forMethod(plain(), "*", 5), plain(), "GET", true},
		{forMethod(plain(), "*", 5), plain(), "", true},
		{forMethod(plain(), "*", 5), plain(), "*", true},
		{forMethod(plain(), "*", 5), plain(), "authorization", true},
		{forMethod(plain(), "*", 5), own(), "PUT", false},
		{forMethod(own(), "*", 5), own(), "PUT", false},
		{forMethod(own(), "*", 5), own(), "", false},
		{forMethod(own(), "*", 5), own(), "*", true},
		{forMethod(own(), "*", 5), plain(), "PUT", false},
		{forMethod(plain(), "**", 5), plain(), "PUT", false},
	} {
		c := filled(t, 1, x.e)
		if c.Method(x.cell, x.m, 4) != x.want {
			t.Errorf("P16.2: Method(%v, %q) with%s: not %v", x.cell.Creds, x.m, show(c.Entries()), x.want)
		}
		if c.Method(x.cell, x.m, 5) || c.Method(x.cell, x.m, last) {
			t.Errorf("P16.2: Method(%v, %q) with%s, expired", x.cell.Creds, x.m, show(c.Entries()))
		}
	}
}

func TestHeader(t *testing.T) {
	for _, x := range []struct {
		e    api.Entry
		cell api.Cell
		name string
		want bool
	}{
		{forHeader(plain(), "x-a", 5), plain(), "x-a", true},
		{forHeader(plain(), "x-a", 5), plain(), "X-A", true},
		{forHeader(plain(), "x-a", 5), plain(), "X-a", true},
		{forHeader(own(), "x-a", 5), own(), "X-A", true},
		// The names of entries are taken as they are.
		{forHeader(plain(), "X-A", 5), plain(), "X-A", false},
		{forHeader(plain(), "X-A", 5), plain(), "x-a", false},
		{forHeader(plain(), "x-a", 5), own(), "x-a", false},
		{forHeader(own(), "x-a", 5), plain(), "x-a", false},
		{forHeader(plain(), "x-a", 5), api.Cell{Origin: "http://a", URL: "http://b/x"}, "x-a", false},
		{forHeader(plain(), "x-a", 5), api.Cell{Origin: "http://b", URL: "http://b/"}, "x-a", false},
		{forHeader(plain(), "x-a", 5), plain(), "x-", false},
		{forHeader(plain(), "x-a", 5), plain(), "x-ab", false},
		{forHeader(plain(), "x-a", 5), plain(), "x-a ", false},
		{forHeader(plain(), "x-a", 5), plain(), "x_a", false},
		{forHeader(plain(), "x-a", 5), plain(), "*", false},
		{forHeader(plain(), "x-a", 5), plain(), "", false},
		{forHeader(plain(), "x-a", 5), plain(), "accept", false},
		{forHeader(plain(), "k", 5), plain(), "\u212a", false},
		{forMethod(plain(), "x-a", 5), plain(), "x-a", false},
		{forMethod(plain(), "X-A", 5), plain(), "X-A", false},
		{forMethod(plain(), "*", 5), plain(), "x-a", false},
		{forMethod(plain(), "*", 5), plain(), "*", false},
		{forMethod(plain(), "PUT", 5), plain(), "", false},
		{forHeader(plain(), "*", 5), plain(), "x-a", true},
		{forHeader(plain(), "*", 5), plain(), "", true},
		{forHeader(plain(), "*", 5), plain(), "*", true},
		{forHeader(plain(), "*", 5), plain(), "authorization", false},
		{forHeader(plain(), "*", 5), plain(), "Authorization", false},
		{forHeader(plain(), "*", 5), plain(), "AUTHORIZATION", false},
		{forHeader(plain(), "*", 5), plain(), "authorizatio", true},
		{forHeader(plain(), "*", 5), plain(), "authorization ", true},
		{forHeader(plain(), "*", 5), plain(), "proxy-authorization", true},
		{forHeader(plain(), "authorization", 5), plain(), "Authorization", true},
		{forHeader(own(), "authorization", 5), own(), "Authorization", true},
		{forHeader(own(), "*", 5), own(), "x-a", false},
		{forHeader(own(), "*", 5), own(), "", false},
		{forHeader(own(), "*", 5), own(), "authorization", false},
		{forHeader(own(), "*", 5), own(), "*", true},
		{forHeader(own(), "*", 5), plain(), "x-a", false},
		{forHeader(plain(), "*", 5), own(), "x-a", false},
		{forHeader(plain(), "**", 5), plain(), "x-a", false},
	} {
		c := filled(t, 1, x.e)
		if c.Header(x.cell, x.name, 4) != x.want {
			t.Errorf("P16.2: Header(%v, %q) with%s: not %v", x.cell.Creds, x.name, show(c.Entries()), x.want)
		}
		if c.Header(x.cell, x.name, 5) || c.Header(x.cell, x.name, last) {
			t.Errorf("P16.2: Header(%v, %q) with%s, expired", x.cell.Creds, x.name, show(c.Entries()))
		}
	}
}

func TestCovers(t *testing.T) {
	c := filled(t, 64, forMethod(plain(), "PUT", 5), forHeader(plain(), "x-a", 6), forHeader(plain(), "x-b", 7), forMethod(plain(), "x-m", 9),
		forHeader(own(), "*", 9), forMethod(own(), "*", 9), forHeader(own(), "x-a", 9))
	for _, x := range []struct {
		cell  api.Cell
		m     string
		names string
		now   uint64
		want  bool
	}{
		{plain(), "PUT", "", 4, true}, {plain(), "PUT", "", 5, false}, {plain(), "put", "", 4, false}, {plain(), "DELETE", "", 4, false},
		{plain(), "PUT", "x-a", 4, true}, {plain(), "PUT", "X-A X-B", 4, true}, {plain(), "PUT", "x-b x-a x-b", 4, true},
		{plain(), "x-m", "x-a x-b", 5, true}, {plain(), "x-m", "x-a x-b", 6, false}, {plain(), "x-m", "x-b x-a", 6, false}, {plain(), "x-m", "x-b", 6, true},
		{plain(), "PUT", "x-c", 4, false}, {plain(), "PUT", "x-a x-c", 4, false}, {plain(), "PUT", "x-c x-a", 4, false}, {plain(), "PUT", "x-m", 4, false},
		{plain(), "x-a", "", 4, false}, {plain(), "", "", 4, false}, {plain(), "*", "", 4, false},
		// Safe methods need no entry, but names do.
		{plain(), "GET", "", 99, true}, {plain(), "get", "", 99, true}, {plain(), "HeaD", "", last, true}, {plain(), "post", "", 0, true}, {api.Cell{}, "POST", "", 0, true},
		{plain(), "GET", "x-a", 5, true}, {plain(), "GET", "x-a", 6, false}, {plain(), "get", "accept", 4, false}, {api.Cell{}, "GET", "x-a", 0, false},
		{plain(), "OPTIONS", "", 4, false}, {plain(), " GET", "", 4, false}, {plain(), "GETS", "", 4, false},
		{own(), "PUT", "", 4, false}, {own(), "*", "", 4, true}, {own(), "*", "* x-a *", 4, true}, {own(), "GET", "X-A", 8, true}, {own(), "GET", "x-b", 8, false},
	} {
		if c.Covers(x.cell, x.m, strings.Fields(x.names), x.now) != x.want {
			t.Errorf("P16.2: Covers(%v, %q, %q, %d): not %v", x.cell.Creds, x.m, x.names, x.now, x.want)
		}
	}
	if c.Covers(plain(), "GET", []string{""}, 0) || c.Covers(plain(), "GET", []string{"x-a", "", "x-b"}, 0) {
		t.Error("P16.2: an empty name is one like any other")
	}
}

// TestEachByte puts each byte beside and into what is stored and what is asked.
func TestEachByte(t *testing.T) {
	for c := range 256 {
		s := oneByte(c)
		for _, cell := range []api.Cell{plain(), own()} {
			p := newPair(t, 64)
			for _, text := range []string{s, "a" + s, s + "a", "authorizatio" + s} {
				p.put(forMethod(cell, text, 9), 0)
				p.put(forHeader(cell, text, 8), 0)
			}
			p.put(forMethod(api.Cell{Origin: s, URL: s, Creds: cell.Creds}, "a", 9), 0)
			for _, asked := range []api.Cell{cell, {Origin: s, URL: s, Creds: cell.Creds}, {Origin: s}, {URL: s, Creds: true}} {
				p.ask(asked, 7, s, "a"+s, s+"a", small(s), strings.ToUpper(s), "a", "A", "authorizatio"+s, "Authorization", "*", "")
			}
			p.clear(api.Cell{Origin: s, URL: s, Creds: cell.Creds})
		}
	}
}

// few are entries that fight for the room of small caches.
func few() []api.Entry {
	return []api.Entry{forMethod(plain(), "*", 3), forHeader(plain(), "a", 2), forMethod(plain(), "*", 1), forHeader(own(), "*", 2), forHeader(plain(), "*", 4), {Cell: own(), Until: 9}}
}

// act is one act of a row; seven numbers tell which.
func (p pair) act(number int, now uint64) {
	p.t.Helper()
	list := few()
	switch number %= len(list) + 2; number {
	case len(list):
		p.sweep(now)
	case len(list) + 1:
		p.clear(plain())
	default:
		e := list[number]
		e.Until += now
		p.put(e, now)
	}
}

// All rows of four acts, in small caches, at times that go on by one or stand still.
func TestAllShortRows(t *testing.T) {
	const length, kinds = 4, 8
	rows := 1
	for range length {
		rows *= kinds
	}
	for most := 1; most <= 3; most++ {
		for _, pace := range []uint64{0, 1, 2} {
			for row := range rows {
				p := newPair(t, most)
				for rest, n := row, 0; n < length; n++ {
					p.act(rest%kinds, uint64(n)*pace)
					rest /= kinds
				}
				now := length * pace
				p.ask(plain(), now, "a", "b", "*")
				p.ask(own(), now, "a", "*")
			}
		}
	}
}

func TestLongUse(t *testing.T) {
	texts := []string{"PUT", "x-a", "X-A", "*", "authorization", "get", ""}
	for _, most := range []int{1, 2, 5, 63, 64, 100} {
		p := newPair(t, most)
		x, now := uint64(most), uint64(0)
		for n := range 1200 {
			x = x*6364136223846793005 + 1442695040888963407
			cell := api.Cell{Origin: strconv.Itoa(int(x >> 60 % 3)), URL: "u", Creds: x>>59&1 == 1}
			text := texts[x>>40%7]
			e := forMethod(cell, text+strings.Repeat("x", int(x>>35%8)), now+x>>30%90)
			if x>>29&1 == 1 {
				e.Method, e.Header = "", e.Method
			}
			p.put(e, now)
			p.ask(cell, now, texts[x>>20%7], "a")
			now += x >> 15 % 3
			switch {
			case n%97 == 0:
				p.clear(cell)
			case n%41 == 0:
				p.sweep(now)
			}
		}
	}
}

// Times may go back, and may be the greatest there are.
func TestAnyTimes(t *testing.T) {
	times := []uint64{0, 1, 2, 5, 1<<63 - 1, 1 << 63, last - 1, last}
	for _, most := range []int{1, 3} {
		for _, first := range times {
			for _, second := range times {
				p := newPair(t, most)
				for i, until := range times {
					p.put(forMethod(plain(), strconv.Itoa(i%5), until), first)
					p.put(forHeader(own(), "x", until), second)
					p.ask(plain(), second, strconv.Itoa(i%5), "x")
					p.ask(own(), first, "x")
				}
				p.sweep(first)
				p.sweep(second)
			}
		}
	}
}

func TestResultsAreNewMemory(t *testing.T) {
	list := []api.Entry{forMethod(plain(), "a", 5), forHeader(own(), "b", 6)}
	c := filled(t, 3, list...)
	first, second := c.Entries(), c.Entries()
	clear(first[:cap(first)])
	if !slices.Equal(second, list) {
		t.Errorf("R4: results share memory:%s", show(second))
	}
	wantEntries(t, c, list...)
	second = append(second[:1], forMethod(plain(), "x", 9), forMethod(plain(), "y", 9))
	wantPut(t, c, forMethod(plain(), "c", 7), 0, true)
	wantEntries(t, c, list[0], list[1], forMethod(plain(), "c", 7))
	if second[1].Method != "x" || second[2].Method != "y" {
		t.Errorf("R4: a result is the cache's own list:%s", show(second))
	}
	third := c.Entries()
	c.Put(forMethod(plain(), "a", 50), 0)
	c.Clear(own())
	if !slices.Equal(third, []api.Entry{list[0], list[1], forMethod(plain(), "c", 7)}) {
		t.Errorf("R4: a result goes with the cache:%s", show(third))
	}
}

func TestArgumentsStay(t *testing.T) {
	room := []string{"X-A", "x-b", "spare", "spare"}
	names := room[:2]
	c := filled(t, 3, forMethod(plain(), "PUT", 5), forHeader(plain(), "x-a", 5), forHeader(plain(), "x-b", 5))
	if !c.Covers(plain(), "PUT", names, 1) || !slices.Equal(room, []string{"X-A", "x-b", "spare", "spare"}) {
		t.Errorf("R4: %q", room)
	}
	names[0] = "x-c"
	if c.Covers(plain(), "PUT", names, 1) || !c.Covers(plain(), "PUT", room[1:2], 1) {
		t.Error("R4: names are kept")
	}
}

func TestCachesGoAlone(t *testing.T) {
	first, second := New(1), New(1)
	wantPut(t, first, forMethod(plain(), "a", 5), 0, true)
	if second.Method(plain(), "a", 0) || second.Clear(plain()) != 0 || second.Sweep(last) != 0 {
		t.Error("P16.1, R5: caches share entries")
	}
	wantPut(t, second, forMethod(plain(), "b", 5), 0, true)
	wantEntries(t, first, forMethod(plain(), "a", 5))
}

// Many entries take no more room than a full cache, and leave none of their texts behind.
func TestManyPuts(t *testing.T) {
	c := New(64)
	for n := range 100_000 {
		now := uint64(n)
		wantPut(t, c, forHeader(plain(), strconv.Itoa(n), now+50+now%100), now, true)
	}
	if got := len(c.Entries()); got != 64 || cap(c.list) > 2*api.MaxCache {
		t.Errorf("P16.1: %d entries, room for %d", got, cap(c.list))
	}
	c.Sweep(last)
	for _, e := range c.list[:cap(c.list)] {
		if e != (api.Entry{}) {
			t.Errorf("what is removed is kept:%s", show([]api.Entry{e}))
		}
	}
}

func TestGreatTexts(t *testing.T) {
	long := strings.Repeat("A", 1<<20)
	cell := api.Cell{Origin: long, URL: long}
	c := New(64)
	for n := range 64 {
		wantPut(t, c, forHeader(cell, small(long)+strconv.Itoa(n), 5), 0, true)
	}
	if !c.Header(cell, long+"63", 4) || c.Header(cell, long, 4) || c.Method(cell, long, 4) {
		t.Error("P16.2: great texts")
	}
	names := slices.Repeat([]string{"x-a", "X-A"}, 100_000)
	wantPut(t, c, forHeader(plain(), "x-a", 5), 0, true)
	if !c.Covers(plain(), "GET", names, 4) || c.Covers(plain(), "GET", append(names, "x-b"), 4) {
		t.Error("P16.2: many names")
	}
}

func TestNilCache(t *testing.T) {
	var c *Cache
	e := forMethod(plain(), "PUT", 5)
	if c.Put(e, 0) || c.Put(api.Entry{}, 0) || c.Method(plain(), "PUT", 0) || c.Header(plain(), "x", 0) {
		t.Error("R3: a nil cache has entries")
	}
	if c.Covers(plain(), "PUT", nil, 0) || c.Covers(plain(), "GET", nil, 0) || c.Covers(plain(), "get", []string{"x"}, 0) {
		t.Error("R3: a nil cache covers something")
	}
	if len(c.Entries()) != 0 || c.Sweep(last) != 0 || c.Clear(plain()) != 0 {
		t.Error("R3: a nil cache has something to remove")
	}
}

// A cache that New has not made is promised nothing but that no call panics.
func TestBareCache(t *testing.T) {
	c := &Cache{}
	c.Sweep(5)
	c.Clear(plain())
	c.Put(forMethod(plain(), "a", 5), 0)
	c.Put(forMethod(plain(), "b", 5), 0)
	c.Covers(plain(), "a", []string{"b"}, 0)
	c.Entries()
}

func TestManyAtOnce(t *testing.T) {
	var wait sync.WaitGroup
	for worker := range 8 {
		wait.Go(func() {
			c := New(worker)
			for n := range 200 {
				m := strconv.Itoa(n)
				if !c.Put(forMethod(plain(), m, 5), 0) || !c.Covers(plain(), m, nil, 0) {
					t.Error("R5: answers hang on other goroutines")
				}
			}
			if len(c.Entries()) != max(worker, 1) {
				t.Error("R5: answers hang on other goroutines")
			}
		})
	}
	wait.Wait()
}

func FuzzCache(f *testing.F) {
	f.Add(1, "PUT", "x-a", []byte("\x00\x01\x02\x03\x04\x05\x06\x07"))
	f.Add(2, "*", "Authorization", []byte("\x04\x00\x08\x08\x11\x22"))
	f.Add(99, "", "", []byte("\xff\x80\x40"))
	f.Fuzz(func(t *testing.T, most int, m, name string, acts []byte) {
		p := newPair(t, most)
		now := uint64(0)
		for _, c := range acts {
			cell := api.Cell{Origin: m[:min(len(m), int(c>>6))], Creds: c>>5&1 == 1}
			now += uint64(c >> 3 & 1)
			p.act(int(c), now)
			p.put(forMethod(cell, m, now+uint64(c&7)), now)
			p.put(forHeader(cell, name, now+uint64(c>>2&7)), now)
			p.put(forHeader(cell, small(name), now+uint64(c>>4)), now)
			p.ask(cell, now, m, name, small(m), "*", "authorization")
			if c%16 == 0 {
				p.clear(cell)
			}
		}
	})
}
