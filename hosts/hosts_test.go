package hosts

import (
	"cmp"
	"math"
	"slices"
	"strconv"
	"strings"
	"sync"
	"testing"

	"lockkeeper/api"
)

// slow is a table by the words of the chapter: for each host its uses, and when it last became the newest.
type slow struct {
	most, turn int
	uses, came map[string]int
}

func newSlow(most int) *slow {
	switch {
	case most < 1:
		most = 1
	case most > 32:
		most = 32
	}
	return &slow{most: most, uses: map[string]int{}, came: map[string]int{}}
}

func (s *slow) keys() []string {
	var list []string
	for key := range s.came {
		list = append(list, key)
	}
	slices.SortFunc(list, func(a, b string) int { return cmp.Compare(s.came[a], s.came[b]) })
	return list
}

func (s *slow) use(key string) (string, api.Errno) {
	gone := ""
	if _, in := s.uses[key]; in {
		if s.uses[key] == 6 {
			return "", api.ErrFull
		}
	} else if len(s.uses) == s.most {
		idle := slices.DeleteFunc(s.keys(), func(k string) bool { return s.uses[k] > 0 })
		if len(idle) == 0 {
			return "", api.ErrFull
		}
		gone = idle[0]
		delete(s.uses, gone)
		delete(s.came, gone)
	}
	s.turn++
	s.came[key] = s.turn
	s.uses[key]++
	return gone, api.OK
}

func (s *slow) free(key string) api.Errno {
	if _, in := s.uses[key]; !in {
		return api.ErrNone
	}
	if s.uses[key] == 0 {
		return api.ErrState
	}
	s.uses[key]--
	return api.OK
}

// pair is a table and what it should be; each call is made on both.
type pair struct {
	t     *testing.T
	table *Table
	s     *slow
}

func newPair(t *testing.T, most int) pair { return pair{t, New(most), newSlow(most)} }

func (p pair) use(key string) {
	p.t.Helper()
	gone, code := p.table.Use(key)
	if wantGone, want := p.s.use(key); gone != wantGone || code != want {
		p.t.Fatalf("P12.1: Use(%q): %q, %d, not %q, %d", key, gone, code, wantGone, want)
	}
	p.agree(key)
}

func (p pair) free(key string) {
	p.t.Helper()
	if code, want := p.table.Free(key), p.s.free(key); code != want {
		p.t.Fatalf("P12.1: Free(%q): %d, not %d", key, code, want)
	}
	p.agree(key)
}

// agree holds against each other what can be asked without a change.
func (p pair) agree(key string) {
	p.t.Helper()
	keys := p.s.keys()
	if got := p.table.Keys(); !slices.Equal(got, keys) {
		p.t.Fatalf("P12.1: Keys(): %q, not %q", got, keys)
	}
	for _, k := range append(keys, key, key+"x") {
		_, in := p.s.uses[k]
		if got, has := p.table.Used(k), p.table.Has(k); got != p.s.uses[k] || has != in {
			p.t.Fatalf("P12.1: %q: %d uses, %v, not %d, %v", k, got, has, p.s.uses[k], in)
		}
	}
}

// uses makes n uses of the host key, all of which are let.
func uses(t *testing.T, table *Table, key string, n int) {
	t.Helper()
	for range n {
		if gone, code := table.Use(key); gone != "" || code != api.OK {
			t.Fatalf("P12.1: Use(%q): %q, %d", key, gone, code)
		}
	}
}

func TestExample(t *testing.T) {
	table := New(1)
	if gone, code := table.Use("a"); gone != "" || code != api.OK {
		t.Errorf("P12.1: the chapter's example, Use(a): %q, %d", gone, code)
	}
	if gone, code := table.Use("b"); gone != "" || code != api.ErrFull {
		t.Errorf("P12.1: the chapter's example, Use(b): %q, %d", gone, code)
	}
	if code := table.Free("a"); code != api.OK {
		t.Errorf("P12.1: the chapter's example, Free(a): %d", code)
	}
	if gone, code := table.Use("b"); gone != "a" || code != api.OK {
		t.Errorf("P12.1: the chapter's example, Use(b) again: %q, %d", gone, code)
	}
}

func TestNewIsEmpty(t *testing.T) {
	for _, most := range []int{math.MinInt, -1, 0, 1, 5, 32, 33, math.MaxInt} {
		table := New(most)
		if table == nil {
			t.Fatalf("P12.1: New(%d): nil", most)
		}
		if len(table.Keys()) != 0 || table.Has("") || table.Used("") != 0 {
			t.Errorf("P12.1: New(%d) has hosts", most)
		}
		if code := table.Free(""); code != api.ErrNone {
			t.Errorf("P12.1: Free of New(%d): %d", most, code)
		}
	}
}

func TestMost(t *testing.T) {
	for _, c := range []struct{ most, want int }{
		{math.MinInt, 1}, {-32, 1}, {-1, 1}, {0, 1}, {1, 1}, {2, 2}, {3, 3}, {17, 17},
		{31, 31}, {32, 32}, {33, 32}, {64, 32}, {1 << 32, 32}, {math.MaxInt, 32},
	} {
		table := New(c.most)
		for n := range c.want {
			uses(t, table, strconv.Itoa(n), 1)
		}
		for range 3 {
			if gone, code := table.Use("one more"); gone != "" || code != api.ErrFull || table.Has("one more") || len(table.Keys()) != c.want {
				t.Errorf("P12.1: New(%d), one too many: %q, %d", c.most, gone, code)
			}
		}
		// A host that is in the table needs no room.
		uses(t, table, "0", 1)
	}
	if api.MaxHosts != 32 || api.PerHost != 6 {
		t.Error("package api is changed")
	}
}

func TestPerHost(t *testing.T) {
	table := New(3)
	uses(t, table, "a", 6)
	uses(t, table, "b", 5)
	for range 3 {
		if gone, code := table.Use("a"); gone != "" || code != api.ErrFull || table.Used("a") != 6 {
			t.Errorf("P12.1: a seventh use: %q, %d; %d uses", gone, code, table.Used("a"))
		}
	}
	if !slices.Equal(table.Keys(), []string{"a", "b"}) {
		t.Errorf("P12.1, R5: what was refused made a host the newest: %q", table.Keys())
	}
	uses(t, table, "b", 1)
	if _, code := table.Use("b"); code != api.ErrFull {
		t.Errorf("P12.1: each host has its own uses: %d", code)
	}
	if code := table.Free("a"); code != api.OK || table.Used("a") != 5 || table.Used("b") != 6 {
		t.Errorf("P12.1: Free of a host that is full: %d", code)
	}
	uses(t, table, "a", 1)
	if _, code := table.Use("a"); code != api.ErrFull {
		t.Errorf("P12.1: seven uses after one was freed: %d", code)
	}
}

// A full host is refused as full, also where an idle host could be removed.
func TestFullHostRemovesNone(t *testing.T) {
	table := New(2)
	uses(t, table, "idle", 1)
	table.Free("idle")
	uses(t, table, "a", 6)
	if gone, code := table.Use("a"); gone != "" || code != api.ErrFull || !table.Has("idle") {
		t.Errorf("P12.1: a seventh use: %q, %d; %q", gone, code, table.Keys())
	}
}

// A host in a full table removes no other.
func TestKnownHostRemovesNone(t *testing.T) {
	table := New(2)
	uses(t, table, "a", 1)
	uses(t, table, "b", 1)
	table.Free("a")
	table.Free("b")
	uses(t, table, "b", 1)
	uses(t, table, "a", 1)
	if !slices.Equal(table.Keys(), []string{"b", "a"}) {
		t.Errorf("P12.1: %q", table.Keys())
	}
}

func TestUseMakesNewest(t *testing.T) {
	table := New(4)
	for _, c := range []struct{ key, want string }{
		{"a", "a"}, {"b", "ab"}, {"c", "abc"}, {"c", "abc"}, {"a", "bca"}, {"c", "bac"}, {"d", "bacd"}, {"b", "acdb"}, {"b", "acdb"},
	} {
		uses(t, table, c.key, 1)
		if got := strings.Join(table.Keys(), ""); got != c.want {
			t.Errorf("P12.1: Keys after Use(%q): %q, not %q", c.key, got, c.want)
		}
	}
}

func TestFree(t *testing.T) {
	table := New(2)
	uses(t, table, "a", 2)
	uses(t, table, "b", 1)
	for _, c := range []struct {
		key  string
		want api.Errno
		a, b int
	}{
		{"c", api.ErrNone, 2, 1}, {"a", api.OK, 1, 1}, {"", api.ErrNone, 1, 1}, {"b", api.OK, 1, 0}, {"b", api.ErrState, 1, 0},
		{"a", api.OK, 0, 0}, {"a", api.ErrState, 0, 0}, {"b", api.ErrState, 0, 0}, {"A", api.ErrNone, 0, 0},
	} {
		if code := table.Free(c.key); code != c.want || table.Used("a") != c.a || table.Used("b") != c.b {
			t.Errorf("P12.1: Free(%q): %d, not %d; %d and %d uses", c.key, code, c.want, table.Used("a"), table.Used("b"))
		}
		if !slices.Equal(table.Keys(), []string{"a", "b"}) || !table.Has("a") || !table.Has("b") || table.Has(c.key) != (c.want != api.ErrNone) {
			t.Errorf("P12.1: Free(%q) moved or removed a host: %q", c.key, table.Keys())
		}
	}
}

// A host without a use stays while there is room for others.
func TestIdleHostsStay(t *testing.T) {
	table := New(3)
	for _, key := range []string{"a", "b", "c"} {
		uses(t, table, key, 1)
		table.Free(key)
	}
	if !slices.Equal(table.Keys(), []string{"a", "b", "c"}) {
		t.Errorf("P12.1: %q", table.Keys())
	}
}

func TestOldestIdleHostGoes(t *testing.T) {
	for idle, want := range []string{"", "a", "b", "a", "c", "a", "b", "a"} {
		table := New(3)
		for place, key := range []string{"a", "b", "c"} {
			uses(t, table, key, 1)
			if idle>>place&1 == 1 {
				table.Free(key)
			}
		}
		keys := table.Keys()
		gone, code := table.Use("d")
		if want == "" {
			if gone != "" || code != api.ErrFull || !slices.Equal(table.Keys(), keys) || table.Has("d") {
				t.Errorf("P12.1: every host has a use: %q, %d, %q", gone, code, table.Keys())
			}
			continue
		}
		keys = append(slices.DeleteFunc(keys, func(k string) bool { return k == want }), "d")
		if gone != want || code != api.OK || !slices.Equal(table.Keys(), keys) || table.Used("d") != 1 || table.Has(want) || table.Used(want) != 0 {
			t.Errorf("P12.1: idle %03b: %q, %d, not %q; %q", idle, gone, code, want, table.Keys())
		}
		if code := table.Free(want); code != api.ErrNone {
			t.Errorf("P12.1: Free of a host that was removed: %d", code)
		}
	}
}

// Which host is the oldest hangs on its last use, not on its first and not on when it was freed.
func TestOldestIsByLastUse(t *testing.T) {
	table := New(2)
	uses(t, table, "a", 1)
	uses(t, table, "b", 1)
	uses(t, table, "a", 1)
	table.Free("a")
	table.Free("a")
	table.Free("b")
	if gone, code := table.Use("c"); gone != "b" || code != api.OK {
		t.Errorf("P12.1: Use(c): %q, %d, not b", gone, code)
	}
	table.Free("c")
	if gone, code := table.Use("b"); gone != "a" || code != api.OK || table.Used("b") != 1 {
		t.Errorf("P12.1: a host that comes back: %q, %d; %d uses", gone, code, table.Used("b"))
	}
	if !slices.Equal(table.Keys(), []string{"c", "b"}) {
		t.Errorf("P12.1: a host that comes back is the newest: %q", table.Keys())
	}
}

// A host of the key "" is one like any other; it can be the one removed.
func TestKeysAreBytes(t *testing.T) {
	keys := []string{"", "a", "A", " a", "a ", "a\x00", "\x00", "\xff", "\xfe", "ä", "http://a:80", strings.Repeat("k", 300)}
	table := New(len(keys))
	for n, key := range keys {
		uses(t, table, key, n%6+1)
	}
	if !slices.Equal(table.Keys(), keys) {
		t.Errorf("P12.1: %q", table.Keys())
	}
	for n, key := range keys {
		if table.Used(key) != n%6+1 || !table.Has(key) || table.Has(key+"\x01") || table.Used(key+"\x01") != 0 {
			t.Errorf("P12.1: %q: %d uses", key, table.Used(key))
		}
	}
	table.Free("")
	if gone, code := table.Use("b"); gone != "" || code != api.OK || table.Has("") || !table.Has("b") || len(table.Keys()) != len(keys) {
		t.Errorf("P12.1: the host of an empty key is removed: %q, %d", gone, code)
	}
}

func TestRefusedChangesNothing(t *testing.T) {
	p := newPair(t, 3)
	for _, key := range []string{"a", "a", "a", "a", "a", "a", "b", "c"} {
		p.use(key)
	}
	for range 4 {
		p.use("a")
		p.use("d")
		p.free("d")
	}
	p.free("b")
	for range 4 {
		p.free("b")
		p.use("a")
		p.free("")
	}
	p.use("d")
	p.use("b")
	p.free("a")
	p.use("a")
	p.free("c")
	p.use("b")
}

// All rows of six acts, of three hosts for tables of one and of two, after which what is left shows.
func TestAllShortRows(t *testing.T) {
	const length = 6
	rows := 1
	for range length {
		rows *= 6
	}
	for most := 1; most <= 2; most++ {
		for row := range rows {
			p := newPair(t, most)
			for rest, n := row, 0; n < length; n++ {
				p.act(rest%6, "abc"[rest%3:rest%3+1])
				rest /= 6
			}
		}
	}
}

// act is a use, or, for half of all numbers, a free.
func (p pair) act(number int, key string) {
	p.t.Helper()
	if number%6 < 3 {
		p.use(key)
		return
	}
	p.free(key)
}

func TestLongUse(t *testing.T) {
	for _, most := range []int{1, 2, 3, 7, 31, 32} {
		for _, spread := range []int{1, most, most + 1, 2 * most, 50} {
			p := newPair(t, most)
			x := uint64(most*100 + spread)
			for range 500 {
				x = x*6364136223846793005 + 1442695040888963407
				p.act(int(x>>61), strconv.Itoa(int(x>>33)%spread))
			}
		}
	}
}

func TestManyUses(t *testing.T) {
	table := New(32)
	for n := range 100_000 {
		key := strconv.Itoa(n)
		gone, code := table.Use(key)
		want := ""
		if n >= 32 {
			want = strconv.Itoa(n - 32)
		}
		if gone != want || code != api.OK || table.Free(key) != api.OK {
			t.Fatalf("P12.1: host %d: %q, %d", n, gone, code)
		}
	}
	if cap(table.list) > 2*api.MaxHosts {
		t.Errorf("room for %d hosts is kept", cap(table.list))
	}
}

func TestResultsAreNewMemory(t *testing.T) {
	table := New(3)
	for _, key := range []string{"a", "b", "c"} {
		uses(t, table, key, 1)
	}
	first, second := table.Keys(), table.Keys()
	clear(first[:cap(first)])
	if want := []string{"a", "b", "c"}; !slices.Equal(second, want) || !slices.Equal(table.Keys(), want) {
		t.Errorf("R4: results share memory: %q, %q", second, table.Keys())
	}
	second = append(second[:1], "x", "y", "z")
	if !table.Has("b") || table.Has("x") || !slices.Equal(table.Keys(), []string{"a", "b", "c"}) {
		t.Errorf("R4: a result is the table's own list: %q, %q", second, table.Keys())
	}
	third := table.Keys()
	table.Free("a")
	table.Use("d")
	if !slices.Equal(third, []string{"a", "b", "c"}) {
		t.Errorf("R4: a result goes with the table: %q", third)
	}
}

func TestTablesGoAlone(t *testing.T) {
	first, second := New(1), New(1)
	uses(t, first, "a", 6)
	if second.Has("a") || second.Used("a") != 0 || second.Free("a") != api.ErrNone {
		t.Error("P12.1, R5: tables share hosts")
	}
	uses(t, second, "b", 1)
	if first.Has("b") || first.Used("a") != 6 || first.Free("a") != api.OK {
		t.Error("P12.1, R5: tables share room")
	}
}

func TestNilTable(t *testing.T) {
	var table *Table
	for _, key := range []string{"", "a"} {
		if gone, code := table.Use(key); gone != "" || code != api.ErrNil {
			t.Errorf("R3: Use of a nil table: %q, %d", gone, code)
		}
		if code := table.Free(key); code != api.ErrNil {
			t.Errorf("R3: Free of a nil table: %d", code)
		}
		if table.Used(key) != 0 || table.Has(key) {
			t.Error("R3: a nil table has hosts")
		}
	}
	if len(table.Keys()) != 0 {
		t.Error("R3: Keys of a nil table")
	}
}

// A table that New has not made is promised nothing but that no call panics.
func TestBareTable(t *testing.T) {
	table := &Table{}
	table.Use("a")
	table.Free("a")
	table.Used("a")
	table.Has("a")
	table.Keys()
}

func TestManyAtOnce(t *testing.T) {
	var wait sync.WaitGroup
	for worker := range 8 {
		wait.Go(func() {
			table := New(worker)
			for n := range 200 {
				key := strconv.Itoa(n)
				if _, code := table.Use(key); code != api.OK || table.Used(key) != 1 || table.Free(key) != api.OK {
					t.Error("R5: answers hang on other goroutines")
				}
			}
			if len(table.Keys()) != max(worker, 1) {
				t.Error("R5: answers hang on other goroutines")
			}
		})
	}
	wait.Wait()
}

func FuzzTable(f *testing.F) {
	f.Add(1, []byte("\x00a\x00b\x03a\x00b"))
	f.Add(2, []byte("\x00a\x00a\x00a\x00a\x00a\x00a\x00a\x03a\x00b\x00c"))
	f.Add(99, []byte("\x00a\x03a\x03a"))
	f.Fuzz(func(t *testing.T, most int, acts []byte) {
		p := newPair(t, most)
		for len(acts) >= 2 {
			p.act(int(acts[0]), strings.Trim(string(acts[1:2]), "z"))
			acts = acts[2:]
		}
	})
}
