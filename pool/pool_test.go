package pool

import (
	"cmp"
	"maps"
	"math"
	"reflect"
	"slices"
	"strconv"
	"strings"
	"sync"
	"testing"

	"lockkeeper/api"
)

const last uint64 = math.MaxUint64

// line is a connection by the words of the chapter; turn tells when it was returned.
type line struct {
	key   string
	busy  bool
	until uint64
	turn  int
}

// slow is a pool by the words of the chapter: all connections in one map, and for each host of the table when it was last used.
type slow struct {
	total       int
	idle        uint64
	given, turn int
	lines       map[int]line
	hosts       map[string]int
}

func newSlow(total int, idle uint64) *slow {
	switch {
	case total < 1:
		total = 1
	case total > 32:
		total = 32
	}
	return &slow{total: total, idle: idle, lines: map[int]line{}, hosts: map[string]int{}}
}

// conns returns the numbers of the connections that are meant, in ascending order.
func (s *slow) conns(meant func(line) bool) []int {
	var list []int
	for conn, l := range s.lines {
		if meant(l) {
			list = append(list, conn)
		}
	}
	slices.Sort(list)
	return list
}

// byTurn returns the numbers of the idle connections that are meant, in the order in which they were returned.
func (s *slow) byTurn(meant func(line) bool) []int {
	list := s.conns(func(l line) bool { return !l.busy && meant(l) })
	slices.SortFunc(list, func(a, b int) int { return cmp.Compare(s.lines[a].turn, s.lines[b].turn) })
	return list
}

func (s *slow) busy() int { return len(s.conns(func(l line) bool { return l.busy })) }

func (s *slow) used(key string) int {
	return len(s.conns(func(l line) bool { return l.busy && l.key == key }))
}

func (s *slow) can(key string) bool { return s.busy() < s.total && s.used(key) < 6 }

func (s *slow) host(conn int) (string, bool) {
	l, ok := s.lines[conn]
	return l.key, ok
}

func (s *slow) expire(now uint64) []int {
	gone := s.conns(func(l line) bool { return !l.busy && l.until <= now })
	for _, conn := range gone {
		delete(s.lines, conn)
	}
	return gone
}

// use makes key the newest host, and removes the oldest host without a use if there is no room.
func (s *slow) use(key string) {
	if _, in := s.hosts[key]; !in && len(s.hosts) == 32 {
		free := slices.DeleteFunc(slices.Collect(maps.Keys(s.hosts)), func(k string) bool { return s.used(k) > 0 })
		gone := slices.MinFunc(free, func(a, b string) int { return cmp.Compare(s.hosts[a], s.hosts[b]) })
		delete(s.hosts, gone)
		for _, conn := range s.conns(func(l line) bool { return l.key == gone }) {
			delete(s.lines, conn)
		}
	}
	s.turn++
	s.hosts[key] = s.turn
}

func (s *slow) take(key string, now uint64) (int, bool, api.Errno) {
	if !s.can(key) {
		return 0, false, api.ErrFull
	}
	s.expire(now)
	s.use(key)
	if own := s.byTurn(func(l line) bool { return l.key == key }); len(own) > 0 {
		conn := own[len(own)-1]
		s.lines[conn] = line{key: key, busy: true}
		return conn, false, api.OK
	}
	if len(s.lines) == s.total {
		delete(s.lines, s.byTurn(func(line) bool { return true })[0])
	}
	s.given++
	s.lines[s.given] = line{key: key, busy: true}
	return s.given, true, api.OK
}

func (s *slow) give(conn int, now uint64, keep bool) api.Errno {
	l, ok := s.lines[conn]
	if !ok || !l.busy {
		return api.ErrNone
	}
	delete(s.lines, conn)
	if keep && s.idle > 0 {
		until := now + s.idle
		if until < now {
			until = last
		}
		s.turn++
		s.lines[conn] = line{key: l.key, until: until, turn: s.turn}
	}
	return api.OK
}

// pair is a pool and what it should be; each call is made on both.
type pair struct {
	t *testing.T
	p *Pool
	s *slow
}

func newPair(t *testing.T, total int, idle uint64) pair {
	return pair{t, New(total, idle), newSlow(total, idle)}
}

func (b pair) take(key string, now uint64) int {
	b.t.Helper()
	conn, fresh, code := b.p.Take(key, now)
	if wantConn, wantFresh, want := b.s.take(key, now); conn != wantConn || fresh != wantFresh || code != want {
		b.t.Fatalf("P13.2: Take(%q, %d): %d, %v, %d, not %d, %v, %d", key, now, conn, fresh, code, wantConn, wantFresh, want)
	}
	b.agree(key)
	return conn
}

func (b pair) give(conn int, now uint64, keep bool) {
	b.t.Helper()
	if code, want := b.p.Give(conn, now, keep), b.s.give(conn, now, keep); code != want {
		b.t.Fatalf("P13.2: Give(%d, %d, %v): %d, not %d", conn, now, keep, code, want)
	}
	b.agree("")
}

func (b pair) expire(now uint64) {
	b.t.Helper()
	if got, want := b.p.Expire(now), b.s.expire(now); !slices.Equal(got, want) {
		b.t.Fatalf("P13.2: Expire(%d): %v, not %v", now, got, want)
	}
	b.agree("")
}

// agree holds against each other what can be asked without a change.
func (b pair) agree(key string) {
	b.t.Helper()
	if got, want := b.p.Busy(), b.s.busy(); got != want {
		b.t.Fatalf("P13.1: Busy(): %d, not %d", got, want)
	}
	if got, want := b.p.Idle(), b.s.conns(func(l line) bool { return !l.busy }); !slices.Equal(got, want) {
		b.t.Fatalf("P13.1: Idle(): %v, not %v", got, want)
	}
	keys := map[string]bool{key: true, key + "x": true}
	for conn := b.s.given - 40; conn <= b.s.given+1; conn++ {
		got, ok := b.p.Host(conn)
		want, wantOK := b.s.host(conn)
		if got != want || ok != wantOK {
			b.t.Fatalf("P13.1: Host(%d): %q, %v, not %q, %v", conn, got, ok, want, wantOK)
		}
		if ok {
			keys[want] = true
		}
	}
	for k := range keys {
		if got, want := b.p.Used(k), b.s.used(k); got != want {
			b.t.Fatalf("P13.1: Used(%q): %d, not %d", k, got, want)
		}
		if got, want := b.p.Can(k), b.s.can(k); got != want {
			b.t.Fatalf("P13.1: Can(%q): %v, not %v", k, got, want)
		}
	}
}

// inUse returns the numbers of the connections in use, in ascending order.
func (b pair) inUse() []int { return b.s.conns(func(l line) bool { return l.busy }) }

// want takes a connection to the host key, and says what is to come of it.
func want(t *testing.T, p *Pool, key string, now uint64, conn int, fresh bool, code api.Errno) {
	t.Helper()
	if gotConn, gotFresh, got := p.Take(key, now); gotConn != conn || gotFresh != fresh || got != code {
		t.Errorf("P13.2: Take(%q, %d): %d, %v, %d, not %d, %v, %d", key, now, gotConn, gotFresh, got, conn, fresh, code)
	}
}

// give returns connections that are in use.
func give(t *testing.T, p *Pool, now uint64, keep bool, conns ...int) {
	t.Helper()
	for _, conn := range conns {
		if code := p.Give(conn, now, keep); code != api.OK {
			t.Errorf("P13.2: Give(%d, %d, %v): %d", conn, now, keep, code)
		}
	}
}

func wantIdle(t *testing.T, p *Pool, conns ...int) {
	t.Helper()
	if got := p.Idle(); !slices.Equal(got, conns) {
		t.Errorf("P13.1: Idle(): %v, not %v", got, conns)
	}
}

func wantExpire(t *testing.T, p *Pool, now uint64, conns ...int) {
	t.Helper()
	if got := p.Expire(now); !slices.Equal(got, conns) {
		t.Errorf("P13.2: Expire(%d): %v, not %v", now, got, conns)
	}
}

func wantHost(t *testing.T, p *Pool, conn int, key string, ok bool) {
	t.Helper()
	if got, gotOK := p.Host(conn); got != key || gotOK != ok {
		t.Errorf("P13.1: Host(%d): %q, %v, not %q, %v", conn, got, gotOK, key, ok)
	}
}

func TestExample(t *testing.T) {
	p := New(1, 9)
	want(t, p, "a", 0, 1, true, api.OK)
	if code := p.Give(1, 0, true); code != api.OK {
		t.Errorf("P13.2: the chapter's example, Give: %d", code)
	}
	want(t, p, "b", 0, 2, true, api.OK)
}

func TestNewIsEmpty(t *testing.T) {
	for _, total := range []int{math.MinInt, -1, 0, 1, 5, 32, 33, math.MaxInt} {
		for _, idle := range []uint64{0, 1, 1000, 1001, last} {
			p := New(total, idle)
			if p == nil {
				t.Fatalf("P13.1: New(%d, %d): nil", total, idle)
			}
			if p.Busy() != 0 || p.Used("") != 0 || len(p.Idle()) != 0 || len(p.Expire(last)) != 0 || !p.Can("") || !p.Can("a") {
				t.Errorf("P13.1: New(%d, %d) has connections", total, idle)
			}
			for _, conn := range []int{math.MinInt, -1, 0, 1, math.MaxInt} {
				wantHost(t, p, conn, "", false)
				if code := p.Give(conn, 0, true); code != api.ErrNone {
					t.Errorf("P13.2: Give(%d) of New(%d, %d): %d", conn, total, idle, code)
				}
			}
		}
	}
}

func TestTotal(t *testing.T) {
	for _, c := range []struct{ total, most int }{
		{math.MinInt, 1}, {-32, 1}, {-1, 1}, {0, 1}, {1, 1}, {2, 2}, {3, 3}, {17, 17},
		{31, 31}, {32, 32}, {33, 32}, {64, 32}, {1 << 32, 32}, {math.MaxInt, 32},
	} {
		p := New(c.total, 5)
		for n := range c.most {
			if !p.Can("one more") {
				t.Errorf("P13.1: New(%d): Can is false after %d", c.total, n)
			}
			want(t, p, strconv.Itoa(n/2), 0, n+1, true, api.OK)
		}
		for range 3 {
			want(t, p, "one more", 0, 0, false, api.ErrFull)
			want(t, p, "0", 0, 0, false, api.ErrFull)
		}
		if p.Can("one more") || p.Can("0") || p.Busy() != c.most {
			t.Errorf("P13.1: New(%d): one too many; %d in use", c.total, p.Busy())
		}
		give(t, p, 0, true, 1)
		want(t, p, "one more", 0, c.most+1, true, api.OK)
		want(t, p, "one more", 0, 0, false, api.ErrFull)
	}
	if api.MaxTotal != 32 || api.PerHost != 6 || api.MaxHosts != 32 {
		t.Error("package api is changed")
	}
}

func TestPerHost(t *testing.T) {
	p := New(32, 5)
	for n := range 12 {
		key := "ab"[n%2 : n%2+1]
		if !p.Can(key) || p.Used(key) != n/2 || p.Busy() != n {
			t.Errorf("P13.1: %d in use, %d of them for %q, Can %v", p.Busy(), p.Used(key), key, p.Can(key))
		}
		want(t, p, key, 0, n+1, true, api.OK)
	}
	for range 3 {
		want(t, p, "a", 0, 0, false, api.ErrFull)
		want(t, p, "b", 0, 0, false, api.ErrFull)
	}
	if p.Can("a") || p.Can("b") || !p.Can("c") || p.Used("a") != 6 || p.Used("b") != 6 || p.Used("c") != 0 || p.Busy() != 12 {
		t.Errorf("P13.1: %d, %d and %d in use", p.Used("a"), p.Used("b"), p.Used("c"))
	}
	give(t, p, 0, false, 3)
	if !p.Can("a") || p.Can("b") || p.Used("a") != 5 || p.Busy() != 11 {
		t.Errorf("P13.1: after Give: %d, %d in use", p.Used("a"), p.Busy())
	}
	want(t, p, "a", 0, 13, true, api.OK)
	want(t, p, "a", 0, 0, false, api.ErrFull)
}

// Idle connections count neither as in use nor against Can, however many there are.
func TestIdleAreNotInUse(t *testing.T) {
	p := New(6, 5)
	for n := range 6 {
		want(t, p, "a", 0, n+1, true, api.OK)
	}
	give(t, p, 0, true, 6, 5, 4, 3, 2, 1)
	wantIdle(t, p, 1, 2, 3, 4, 5, 6)
	if p.Busy() != 0 || p.Used("a") != 0 || !p.Can("a") || !p.Can("b") {
		t.Errorf("P13.1: %d in use, %d of a", p.Busy(), p.Used("a"))
	}
}

func TestHost(t *testing.T) {
	p := New(3, 5)
	want(t, p, "a", 0, 1, true, api.OK)
	want(t, p, "b", 0, 2, true, api.OK)
	want(t, p, "", 0, 3, true, api.OK)
	give(t, p, 0, true, 1)
	wantHost(t, p, 1, "a", true)
	wantHost(t, p, 2, "b", true)
	wantHost(t, p, 3, "", true)
	for _, conn := range []int{math.MinInt, -1, 0, 4, math.MaxInt} {
		wantHost(t, p, conn, "", false)
	}
	give(t, p, 0, false, 2)
	wantHost(t, p, 2, "", false)
	wantExpire(t, p, 5, 1)
	wantHost(t, p, 1, "", false)
	wantHost(t, p, 3, "", true)
}

func TestGive(t *testing.T) {
	p := New(4, 5)
	for n, key := range []string{"a", "a", "b"} {
		want(t, p, key, 0, n+1, true, api.OK)
	}
	for _, c := range []struct {
		conn    int
		keep    bool
		code    api.Errno
		a, b    int
		isThere bool
	}{
		{4, true, api.ErrNone, 2, 1, false}, {0, true, api.ErrNone, 2, 1, false}, {-1, false, api.ErrNone, 2, 1, false},
		{2, true, api.OK, 1, 1, true}, {2, true, api.ErrNone, 1, 1, true}, {2, false, api.ErrNone, 1, 1, true},
		{1, false, api.OK, 0, 1, false}, {1, false, api.ErrNone, 0, 1, false}, {1, true, api.ErrNone, 0, 1, false},
		{3, true, api.OK, 0, 0, true}, {3, false, api.ErrNone, 0, 0, true},
	} {
		if code := p.Give(c.conn, 0, c.keep); code != c.code || p.Used("a") != c.a || p.Used("b") != c.b || p.Busy() != c.a+c.b {
			t.Errorf("P13.2: Give(%d, 0, %v): %d, not %d; %d and %d in use", c.conn, c.keep, code, c.code, p.Used("a"), p.Used("b"))
		}
		if _, ok := p.Host(c.conn); ok != c.isThere {
			t.Errorf("P13.2: Give(%d, 0, %v): still there: %v", c.conn, c.keep, ok)
		}
	}
	wantIdle(t, p, 2, 3)
}

// What is refused for a connection that is idle leaves its time as it was.
func TestGiveTwiceKeepsTime(t *testing.T) {
	p := New(1, 5)
	want(t, p, "a", 0, 1, true, api.OK)
	give(t, p, 0, true, 1)
	if code := p.Give(1, 3, true); code != api.ErrNone {
		t.Errorf("P13.2: Give of an idle connection: %d", code)
	}
	wantExpire(t, p, 4)
	wantExpire(t, p, 5, 1)
}

func TestExpire(t *testing.T) {
	p := New(32, 10)
	for n := range 5 {
		want(t, p, "abcde"[n:n+1], 0, n+1, true, api.OK)
	}
	for n, conn := range []int{4, 2, 5, 3} {
		give(t, p, uint64(n/2), true, conn)
	}
	wantIdle(t, p, 2, 3, 4, 5)
	wantExpire(t, p, 0)
	wantExpire(t, p, 9)
	wantIdle(t, p, 2, 3, 4, 5)
	wantExpire(t, p, 10, 2, 4)
	wantExpire(t, p, 10)
	wantIdle(t, p, 3, 5)
	wantExpire(t, p, last, 3, 5)
	wantExpire(t, p, last)
	wantIdle(t, p)
	wantHost(t, p, 1, "a", true)
	if p.Busy() != 1 || p.Used("a") != 1 {
		t.Errorf("P13.2: Expire takes connections in use: %d", p.Busy())
	}
	want(t, p, "b", 20, 6, true, api.OK)
}

// The times need not come in the order in which the connections were returned, nor the numbers in either.
func TestExpireOutOfOrder(t *testing.T) {
	p := New(4, 10)
	for n := range 4 {
		want(t, p, "a", 0, n+1, true, api.OK)
	}
	for _, g := range []struct {
		conn int
		now  uint64
	}{{3, 7}, {1, 2}, {4, 5}, {2, 0}} {
		give(t, p, g.now, true, g.conn)
	}
	wantExpire(t, p, 12, 1, 2)
	wantIdle(t, p, 3, 4)
	want(t, p, "a", 0, 4, false, api.OK)
	wantExpire(t, p, 17, 3)
}

func TestTimesEndAtMax(t *testing.T) {
	for _, c := range []struct{ idle, now, until uint64 }{
		{1, 0, 1}, {1000, 5, 1005}, {1001, 5, 1006}, {5, last - 5, last}, {5, last - 4, last}, {5, last, last}, {1, last, last}, {last, 0, last}, {last, 1, last}, {last, last, last},
	} {
		p := New(1, c.idle)
		want(t, p, "a", 0, 1, true, api.OK)
		give(t, p, c.now, true, 1)
		wantExpire(t, p, c.until-1)
		wantIdle(t, p, 1)
		wantExpire(t, p, c.until, 1)
	}
}

func TestIdleOfZeroCloses(t *testing.T) {
	p := New(2, 0)
	want(t, p, "a", 0, 1, true, api.OK)
	want(t, p, "a", 0, 2, true, api.OK)
	give(t, p, 0, true, 1)
	give(t, p, last, true, 2)
	wantIdle(t, p)
	wantHost(t, p, 1, "", false)
	wantHost(t, p, 2, "", false)
	want(t, p, "a", 0, 3, true, api.OK)
}

func TestTakeExpiresFirst(t *testing.T) {
	p := New(3, 5)
	want(t, p, "a", 0, 1, true, api.OK)
	want(t, p, "b", 0, 2, true, api.OK)
	want(t, p, "b", 0, 3, true, api.OK)
	give(t, p, 0, true, 1)
	give(t, p, 1, true, 2)
	want(t, p, "a", 5, 4, true, api.OK)
	wantHost(t, p, 1, "", false)
	// Connection 1 was closed for its time, so that there was room: connection 2 stays.
	wantIdle(t, p, 2)
	want(t, p, "b", 5, 2, false, api.OK)
}

// What Take refuses closes none, not even those whose time has come, and uses no number.
func TestRefusedTakeChangesNothing(t *testing.T) {
	p := New(8, 5)
	for n := range 6 {
		want(t, p, "a", 0, n+1, true, api.OK)
	}
	want(t, p, "b", 0, 7, true, api.OK)
	give(t, p, 0, true, 7)
	for range 3 {
		want(t, p, "a", 9, 0, false, api.ErrFull)
		wantIdle(t, p, 7)
		wantHost(t, p, 7, "b", true)
	}
	want(t, p, "b", 4, 7, false, api.OK)
	want(t, p, "b", 4, 8, true, api.OK)
}

// Of the idle connections to a host the one returned last is used again, whatever its number and its time.
func TestNewestIdleIsUsedAgain(t *testing.T) {
	p := New(8, 100)
	for n := range 5 {
		want(t, p, "a", 0, n+1, true, api.OK)
	}
	want(t, p, "b", 0, 6, true, api.OK)
	give(t, p, 9, true, 4)
	give(t, p, 8, true, 2, 5)
	give(t, p, 7, true, 3, 6)
	want(t, p, "a", 10, 3, false, api.OK)
	want(t, p, "a", 10, 5, false, api.OK)
	give(t, p, 10, true, 3)
	want(t, p, "a", 10, 3, false, api.OK)
	want(t, p, "a", 10, 2, false, api.OK)
	want(t, p, "a", 10, 4, false, api.OK)
	want(t, p, "a", 10, 7, true, api.OK)
	wantIdle(t, p, 6)
	want(t, p, "b", 10, 6, false, api.OK)
	if p.Used("a") != 6 || p.Used("b") != 1 || p.Busy() != 7 {
		t.Errorf("P13.1: %d and %d in use of %d", p.Used("a"), p.Used("b"), p.Busy())
	}
}

// A connection that is in use again has no time any more, and gets a new one when it is returned.
func TestUsedAgainHasNewTime(t *testing.T) {
	p := New(2, 10)
	want(t, p, "a", 0, 1, true, api.OK)
	give(t, p, 0, true, 1)
	want(t, p, "a", 9, 1, false, api.OK)
	wantExpire(t, p, last)
	give(t, p, 20, true, 1)
	wantExpire(t, p, 29)
	wantExpire(t, p, 30, 1)
}

// Of a full pool the idle connection that was returned first goes, whatever its number, its host and its time.
func TestFirstIdleMakesRoom(t *testing.T) {
	p := New(4, 100)
	for n, key := range []string{"a", "b", "a", "c"} {
		want(t, p, key, 0, n+1, true, api.OK)
	}
	give(t, p, 9, true, 3)
	give(t, p, 1, true, 1, 2)
	want(t, p, "d", 10, 5, true, api.OK)
	wantIdle(t, p, 1, 2)
	wantHost(t, p, 3, "", false)
	want(t, p, "e", 10, 6, true, api.OK)
	wantIdle(t, p, 2)
	// One that is used again needs no room.
	want(t, p, "b", 10, 2, false, api.OK)
	want(t, p, "a", 10, 0, false, api.ErrFull)
	give(t, p, 10, false, 4)
	// There is room, so that none goes.
	give(t, p, 10, true, 5)
	want(t, p, "a", 10, 7, true, api.OK)
	wantIdle(t, p, 5)
	if p.Busy() != 3 {
		t.Errorf("P13.1: %d in use", p.Busy())
	}
}

// Only a connection in use counts for a host: its idle ones leave it six.
func TestOwnIdleAreUsedAhead(t *testing.T) {
	p := New(7, 100)
	for n := range 6 {
		want(t, p, "a", 0, n+1, true, api.OK)
	}
	give(t, p, 0, true, 1, 2)
	want(t, p, "b", 0, 7, true, api.OK)
	want(t, p, "a", 0, 2, false, api.OK)
	want(t, p, "a", 0, 1, false, api.OK)
	want(t, p, "a", 0, 0, false, api.ErrFull)
}

func TestNumbersAreNeverUsedTwice(t *testing.T) {
	p := New(1, 5)
	for n := range 20_000 {
		want(t, p, strconv.Itoa(n%100), uint64(n), n+1, true, api.OK)
		give(t, p, uint64(n), n%3 == 0, n+1)
	}
	if cap(p.busy) > 2*api.MaxTotal || cap(p.idle) > 2*api.MaxTotal {
		t.Errorf("room for %d and %d connections is kept", cap(p.busy), cap(p.idle))
	}
}

// visit takes and returns, unkept, a connection to each of n further hosts.
func visit(t *testing.T, p *Pool, from, n int) {
	t.Helper()
	for host := from; host < from+n; host++ {
		conn, fresh, code := p.Take("host "+strconv.Itoa(host), 0)
		if !fresh || code != api.OK || p.Give(conn, 0, false) != api.OK {
			t.Fatalf("P13.2: host %d: %d, %v, %d", host, conn, fresh, code)
		}
	}
}

func TestRemovedHostLosesItsIdle(t *testing.T) {
	for _, key := range []string{"a", ""} {
		p := New(8, 100)
		for n := range 3 {
			want(t, p, key, 0, n+1, true, api.OK)
		}
		want(t, p, "b", 0, 4, true, api.OK)
		give(t, p, 0, true, 2, 4, 1, 3)
		visit(t, p, 0, 30)
		wantIdle(t, p, 1, 2, 3, 4)
		want(t, p, "c", 0, 35, true, api.OK)
		wantIdle(t, p, 4)
		for conn := range 3 {
			wantHost(t, p, conn+1, "", false)
		}
		wantHost(t, p, 4, "b", true)
		// A host that comes back finds none of its connections, and the next one makes room.
		want(t, p, key, 0, 36, true, api.OK)
		wantIdle(t, p)
		if p.Used(key) != 1 || p.Used("b") != 0 || p.Busy() != 2 {
			t.Errorf("P13.1: %d of %d in use", p.Used(key), p.Busy())
		}
	}
}

// Which host goes hangs on when it was last taken, not on when it was first taken or returned, nor on its connections.
func TestOldestHostWithoutUseIsRemoved(t *testing.T) {
	p := New(8, 100)
	for n, key := range []string{"a", "b", "c", "d"} {
		want(t, p, key, 0, n+1, true, api.OK)
	}
	give(t, p, 0, true, 4, 3, 2)
	want(t, p, "b", 0, 2, false, api.OK)
	give(t, p, 0, true, 2)
	// From the oldest: a in use, c, d, b.
	visit(t, p, 0, 28)
	wantIdle(t, p, 2, 3, 4)
	visit(t, p, 28, 1)
	wantIdle(t, p, 2, 4)
	visit(t, p, 29, 1)
	wantIdle(t, p, 2)
	visit(t, p, 30, 1)
	wantIdle(t, p)
	wantHost(t, p, 1, "a", true)
}

// The idle connections of a host that is removed make room ahead of the one that was returned first.
func TestRemovedHostMakesRoomFirst(t *testing.T) {
	p := New(2, 100)
	want(t, p, "a", 0, 1, true, api.OK)
	visit(t, p, 0, 30)
	want(t, p, "b", 0, 32, true, api.OK)
	give(t, p, 0, true, 32, 1)
	want(t, p, "c", 0, 33, true, api.OK)
	wantIdle(t, p, 32)
	wantHost(t, p, 1, "", false)
}

// That no host is removed closes no connection of the host whose key is empty.
func TestEmptyKeyStays(t *testing.T) {
	p := New(8, 100)
	want(t, p, "", 0, 1, true, api.OK)
	want(t, p, "", 0, 2, true, api.OK)
	give(t, p, 0, true, 1, 2)
	want(t, p, "a", 0, 3, true, api.OK)
	want(t, p, "a", 0, 4, true, api.OK)
	wantIdle(t, p, 1, 2)
	want(t, p, "", 0, 2, false, api.OK)
	wantIdle(t, p, 1)
	wantHost(t, p, 1, "", true)
	if p.Used("") != 1 {
		t.Errorf("P13.1: %d in use", p.Used(""))
	}
}

func TestKeysAreBytes(t *testing.T) {
	keys := []string{"", "a", "A", " a", "a ", "a\x00", "\x00", "\xff", "\xfe", "ä", "http://a:80", strings.Repeat("k", 300)}
	p := New(32, 100)
	for n, key := range keys {
		want(t, p, key, 0, n+1, true, api.OK)
	}
	for n, key := range keys {
		wantHost(t, p, n+1, key, true)
		if p.Used(key) != 1 || p.Used(key+"\x01") != 0 {
			t.Errorf("P13.1: Used(%q): %d", key, p.Used(key))
		}
		give(t, p, 0, true, n+1)
	}
	for n, key := range keys {
		want(t, p, key, 0, n+1, false, api.OK)
	}
}

// act makes the call for which a number stands; of those in use the first or the last is returned.
func (b pair) act(number int, key string, now uint64) {
	b.t.Helper()
	busy := append([]int{-1}, b.inUse()...)
	switch number % 8 {
	case 0, 1, 2:
		b.take(key, now)
	case 3:
		b.give(busy[min(1, len(busy)-1)], now, true)
	case 4:
		b.give(busy[len(busy)-1], now, true)
	case 5:
		b.give(busy[len(busy)/2], now, false)
	case 6:
		b.expire(now)
	case 7:
		b.give(b.s.given-1, now, true)
	}
}

// All rows of five acts of two hosts, for small pools.
func TestAllShortRows(t *testing.T) {
	const length, kinds = 5, 6
	rows := 1
	for range length {
		rows *= kinds
	}
	for _, total := range []int{1, 2, 3} {
		for _, idle := range []uint64{0, 2, 9} {
			for row := range rows {
				b := newPair(t, total, idle)
				for rest, n := row, 0; n < length; n++ {
					kind := rest % kinds
					b.act(kind+1, "ab"[kind&1:kind&1+1], uint64(n))
					rest /= kinds
				}
			}
		}
	}
}

func TestLongUse(t *testing.T) {
	for _, total := range []int{1, 2, 5, 7, 31, 32} {
		for _, spread := range []int{1, 2, 6, 33, 40, 100} {
			for _, idle := range []uint64{0, 1, 30, 1000} {
				b := newPair(t, total, idle)
				x := uint64(total*1000+spread) + idle
				now := uint64(0)
				for range 300 {
					x = x*6364136223846793005 + 1442695040888963407
					b.act(int(x>>61), strconv.Itoa(int(x>>33)%spread), now)
					now += x >> 50 & 3
				}
			}
		}
	}
}

// Times need not rise from call to call.
func TestAnyTimes(t *testing.T) {
	for _, idle := range []uint64{1, 100, last - 50, last} {
		b := newPair(t, 6, idle)
		x := idle
		for range 2000 {
			x = x*6364136223846793005 + 1442695040888963407
			now := x >> 40 & 127
			if x>>50&1 == 1 {
				now = last - now
			}
			b.act(int(x>>61), strconv.Itoa(int(x>>33)%4), now)
		}
	}
}

func TestResultsAreNewMemory(t *testing.T) {
	p := New(8, 5)
	for n := range 4 {
		want(t, p, "a", 0, n+1, true, api.OK)
	}
	give(t, p, 0, true, 1, 2, 3)
	first, second := p.Idle(), p.Idle()
	clear(first[:cap(first)])
	if !slices.Equal(second, []int{1, 2, 3}) {
		t.Errorf("R4: results share memory: %v", second)
	}
	wantIdle(t, p, 1, 2, 3)
	give(t, p, 9, true, 4)
	gone := p.Expire(5)
	if !slices.Equal(second, []int{1, 2, 3}) || !slices.Equal(gone, []int{1, 2, 3}) {
		t.Errorf("R4: a result goes with the pool: %v, %v", second, gone)
	}
	clear(gone[:cap(gone)])
	wantIdle(t, p, 4)
	wantExpire(t, p, 14, 4)
}

func TestPoolsGoAlone(t *testing.T) {
	first, second := New(1, 5), New(1, 5)
	want(t, first, "a", 0, 1, true, api.OK)
	if second.Busy() != 0 || second.Used("a") != 0 || second.Give(1, 0, true) != api.ErrNone || !second.Can("a") {
		t.Error("P13.1, R5: pools share connections")
	}
	want(t, second, "b", 0, 1, true, api.OK)
	wantHost(t, first, 1, "a", true)
	wantHost(t, second, 1, "b", true)
}

func TestNilPool(t *testing.T) {
	var p *Pool
	for _, key := range []string{"", "a"} {
		want(t, p, key, 0, 0, false, api.ErrNil)
		if p.Can(key) || p.Used(key) != 0 {
			t.Error("R3: a nil pool has connections")
		}
	}
	for _, conn := range []int{-1, 0, 1} {
		if code := p.Give(conn, 0, true); code != api.ErrNil {
			t.Errorf("R3: Give of a nil pool: %d", code)
		}
		wantHost(t, p, conn, "", false)
	}
	if p.Busy() != 0 || len(p.Idle()) != 0 || len(p.Expire(last)) != 0 {
		t.Error("R3: a nil pool has connections")
	}
}

// A pool that New has not made is promised nothing but that no call panics.
func TestBarePool(t *testing.T) {
	p := &Pool{}
	p.Can("a")
	p.Take("a", 0)
	p.Give(1, 0, true)
	p.Expire(last)
	p.Busy()
	p.Used("a")
	p.Idle()
	p.Host(1)
}

func TestNextIsAtomic(t *testing.T) {
	atomics := 0
	for field := range reflect.TypeFor[Pool]().Fields() {
		if field.Type.PkgPath() == "sync/atomic" {
			atomics++
		}
	}
	if atomics != 1 {
		t.Errorf("Ways of chapter 13: %d atomic numbers", atomics)
	}
}

func TestManyAtOnce(t *testing.T) {
	var wait sync.WaitGroup
	for worker := range 8 {
		wait.Go(func() {
			p := New(worker, 5)
			for n := range 200 {
				conn, fresh, code := p.Take(strconv.Itoa(n), 0)
				if conn != n+1 || !fresh || code != api.OK || p.Give(conn, 0, true) != api.OK {
					t.Error("R5: answers hang on other goroutines")
				}
			}
			if len(p.Idle()) != max(worker, 1) {
				t.Error("R5: answers hang on other goroutines")
			}
		})
	}
	wait.Wait()
}

func FuzzPool(f *testing.F) {
	f.Add(1, uint64(9), []byte("\x00a\x03\x00b"))
	f.Add(32, uint64(5), []byte("\x00a\x00a\x00a\x00a\x00a\x00a\x00a\x04a\x00b\x06c"))
	f.Add(99, last, []byte("\x00a\x07a\x05a"))
	f.Fuzz(func(t *testing.T, total int, idle uint64, acts []byte) {
		b := newPair(t, total, idle)
		now := uint64(0)
		for len(acts) >= 2 {
			b.act(int(acts[0]), strings.Trim(string(acts[1:2]), "z"), now)
			now += uint64(acts[0] >> 4)
			acts = acts[2:]
		}
	})
}
