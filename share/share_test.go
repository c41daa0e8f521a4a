package share

import (
	"cmp"
	"maps"
	"math"
	"math/rand/v2"
	"reflect"
	"slices"
	"strings"
	"sync"
	"testing"

	"lockkeeper/api"
)

// stay tells to which preflight a member belongs, and when it joined it.
type stay struct{ pre, turn int }

// slow is a table by the words of the chapter: the wants by the preflights' numbers, and the members each for itself.
type slow struct {
	given, turn int
	wants       map[int]api.Want
	stays       map[int]stay
}

func newSlow() *slow { return &slow{wants: map[int]api.Want{}, stays: map[int]stay{}} }

func (s *slow) of(id int) int { return s.stays[id].pre }

func (s *slow) length() int { return len(s.wants) }

func (s *slow) want(pre int) (api.Want, bool) {
	w, ok := s.wants[pre]
	return w, ok
}

// members returns the members of the preflight pre in the order in which they joined.
func (s *slow) members(pre int) []int {
	ids := slices.DeleteFunc(slices.Collect(maps.Keys(s.stays)), func(id int) bool { return s.of(id) != pre })
	slices.SortFunc(ids, func(a, b int) int { return cmp.Compare(s.stays[a].turn, s.stays[b].turn) })
	return ids
}

func (s *slow) join(w api.Want, id int) (int, bool, api.Errno) {
	_, twice := s.stays[id]
	switch {
	case id < 1:
		return 0, false, api.ErrArg
	case twice:
		return 0, false, api.ErrTwice
	case len(s.stays) >= 64:
		return 0, false, api.ErrFull
	}
	s.turn++
	for pre, other := range s.wants {
		if other == w {
			s.stays[id] = stay{pre, s.turn}
			return pre, false, api.OK
		}
	}
	s.given++
	s.wants[s.given] = w
	s.stays[id] = stay{s.given, s.turn}
	return s.given, true, api.OK
}

func (s *slow) leave(id int) (int, bool, bool) {
	at, ok := s.stays[id]
	if !ok {
		return 0, false, false
	}
	delete(s.stays, id)
	last := len(s.members(at.pre)) == 0
	if last {
		delete(s.wants, at.pre)
	}
	return at.pre, last, true
}

func (s *slow) done(pre int) []int {
	ids := s.members(pre)
	for _, id := range ids {
		delete(s.stays, id)
	}
	delete(s.wants, pre)
	return ids
}

// pair is a table and what it should be; each call is made on both.
type pair struct {
	t *testing.T
	q *Table
	s *slow
}

func newPair(t *testing.T) pair { return pair{t, New(), newSlow()} }

func (b pair) join(w api.Want, id int) {
	b.t.Helper()
	pre, fresh, code := b.q.Join(w, id)
	if wantPre, wantFresh, want := b.s.join(w, id); pre != wantPre || fresh != wantFresh || code != want {
		b.t.Fatalf("P18.1: Join(%v, %d): %d, %v, %d, not %d, %v, %d", w, id, pre, fresh, code, wantPre, wantFresh, want)
	}
	b.agree(id)
}

func (b pair) leave(id int) {
	b.t.Helper()
	pre, last, ok := b.q.Leave(id)
	if wantPre, wantLast, want := b.s.leave(id); pre != wantPre || last != wantLast || ok != want {
		b.t.Fatalf("P18.1: Leave(%d): %d, %v, %v, not %d, %v, %v", id, pre, last, ok, wantPre, wantLast, want)
	}
	b.agree(id)
}

func (b pair) done(pre int) {
	b.t.Helper()
	if got, want := b.q.Done(pre), b.s.done(pre); !slices.Equal(got, want) {
		b.t.Fatalf("P18.1: Done(%d): %v, not %v", pre, got, want)
	}
	b.agree(pre)
}

// agree holds against each other what can be asked without a change.
func (b pair) agree(near int) {
	b.t.Helper()
	if got, want := b.q.Len(), b.s.length(); got != want {
		b.t.Fatalf("P18.1: Len(): %d, not %d", got, want)
	}
	pres := map[int]bool{0: true, -1: true, near: true, b.s.given: true, b.s.given + 1: true}
	for pre := range b.s.wants {
		pres[pre] = true
	}
	ids := map[int]bool{0: true, -1: true, near: true, near + 1: true}
	for pre := range pres {
		members := b.q.Members(pre)
		if want := b.s.members(pre); !slices.Equal(members, want) {
			b.t.Fatalf("P18.1: Members(%d): %v, not %v", pre, members, want)
		}
		for _, id := range members {
			ids[id] = true
		}
		got, ok := b.q.Want(pre)
		if want, wantOK := b.s.want(pre); got != want || ok != wantOK {
			b.t.Fatalf("P18.1: Want(%d): %v, %v, not %v, %v", pre, got, ok, want, wantOK)
		}
	}
	for id := range ids {
		if got, want := b.q.Of(id), b.s.of(id); got != want {
			b.t.Fatalf("P18.1: Of(%d): %d, not %d", id, got, want)
		}
	}
}

// named returns a want that differs from others by its method alone.
func named(method string) api.Want {
	return api.Want{Cell: api.Cell{Origin: "http://a", URL: "http://b/", Creds: true}, Method: method, Names: "x-a"}
}

func wantJoin(t *testing.T, q *Table, w api.Want, id, pre int, fresh bool, code api.Errno) {
	t.Helper()
	if gotPre, gotFresh, got := q.Join(w, id); gotPre != pre || gotFresh != fresh || got != code {
		t.Errorf("P18.1: Join(%v, %d): %d, %v, %d, not %d, %v, %d", w, id, gotPre, gotFresh, got, pre, fresh, code)
	}
}

func wantLeave(t *testing.T, q *Table, id, pre int, last, ok bool) {
	t.Helper()
	if gotPre, gotLast, got := q.Leave(id); gotPre != pre || gotLast != last || got != ok {
		t.Errorf("P18.1: Leave(%d): %d, %v, %v, not %d, %v, %v", id, gotPre, gotLast, got, pre, last, ok)
	}
}

func wantDone(t *testing.T, q *Table, pre int, ids ...int) {
	t.Helper()
	if got := q.Done(pre); !slices.Equal(got, ids) {
		t.Errorf("P18.1: Done(%d): %v, not %v", pre, got, ids)
	}
}

func wantMembers(t *testing.T, q *Table, pre int, ids ...int) {
	t.Helper()
	if got := q.Members(pre); !slices.Equal(got, ids) {
		t.Errorf("P18.1: Members(%d): %v, not %v", pre, got, ids)
	}
}

func wantWant(t *testing.T, q *Table, pre int, w api.Want, ok bool) {
	t.Helper()
	if got, gotOK := q.Want(pre); got != w || gotOK != ok {
		t.Errorf("P18.1: Want(%d): %v, %v, not %v, %v", pre, got, gotOK, w, ok)
	}
}

func wantOf(t *testing.T, q *Table, id, pre int) {
	t.Helper()
	if got := q.Of(id); got != pre {
		t.Errorf("P18.1: Of(%d): %d, not %d", id, got, pre)
	}
}

func wantLen(t *testing.T, q *Table, n int) {
	t.Helper()
	if got := q.Len(); got != n {
		t.Errorf("P18.1: Len(): %d, not %d", got, n)
	}
}

func TestExample(t *testing.T) {
	q, w := New(), named("PUT")
	wantJoin(t, q, w, 5, 1, true, api.OK)
	wantJoin(t, q, w, 3, 1, false, api.OK)
	wantLeave(t, q, 5, 1, false, true)
	wantDone(t, q, 1, 3)
}

func TestNewIsEmpty(t *testing.T) {
	q := New()
	if q == nil {
		t.Fatal("P18.1: New(): nil")
	}
	wantLen(t, q, 0)
	for _, n := range []int{math.MinInt, -1, 0, 1, 2, 64, math.MaxInt} {
		wantOf(t, q, n, 0)
		wantMembers(t, q, n)
		wantWant(t, q, n, api.Want{}, false)
		wantLeave(t, q, n, 0, false, false)
		wantDone(t, q, n)
	}
	wantLen(t, q, 0)
	wantJoin(t, q, api.Want{}, 1, 1, true, api.OK)
}

func TestJoin(t *testing.T) {
	q, v, w := New(), named("PUT"), named("DELETE")
	for _, c := range []struct {
		w       api.Want
		id      int
		pre     int
		fresh   bool
		code    api.Errno
		inV, nW int
	}{
		{v, 0, 0, false, api.ErrArg, 0, 0}, {v, -1, 0, false, api.ErrArg, 0, 0}, {v, math.MinInt, 0, false, api.ErrArg, 0, 0},
		{v, 7, 1, true, api.OK, 1, 0}, {v, 7, 0, false, api.ErrTwice, 1, 0}, {w, 7, 0, false, api.ErrTwice, 1, 0},
		{v, 1, 1, false, api.OK, 2, 0}, {w, 1, 0, false, api.ErrTwice, 2, 0}, {w, 0, 0, false, api.ErrArg, 2, 0},
		{w, math.MaxInt, 2, true, api.OK, 2, 1}, {v, math.MaxInt, 0, false, api.ErrTwice, 2, 1},
		{w, 2, 2, false, api.OK, 2, 2}, {v, 3, 1, false, api.OK, 3, 2}, {w, -7, 0, false, api.ErrArg, 3, 2},
	} {
		wantJoin(t, q, c.w, c.id, c.pre, c.fresh, c.code)
		if got := len(q.Members(1)); got != c.inV {
			t.Errorf("P18.1: after Join(%v, %d): %d members of 1, not %d", c.w, c.id, got, c.inV)
		}
		if got := len(q.Members(2)); got != c.nW {
			t.Errorf("P18.1: after Join(%v, %d): %d members of 2, not %d", c.w, c.id, got, c.nW)
		}
	}
	wantMembers(t, q, 1, 7, 1, 3)
	wantMembers(t, q, 2, math.MaxInt, 2)
	wantWant(t, q, 1, v, true)
	wantWant(t, q, 2, w, true)
	wantLen(t, q, 2)
	wantOf(t, q, math.MaxInt, 2)
	wantOf(t, q, 3, 1)
	wantOf(t, q, -7, 0)
}

// Two wants are one only if each field is the same, byte by byte.
func TestWants(t *testing.T) {
	cell := api.Cell{Origin: "o", URL: "u", Creds: true}
	wants := []api.Want{
		{}, {Cell: api.Cell{Creds: true}}, {Cell: cell}, {Cell: cell, Method: "m"}, {Cell: cell, Method: "m", Names: "n"},
		{Cell: api.Cell{Origin: "o", URL: "u"}, Method: "m", Names: "n"},
		{Cell: api.Cell{Origin: "O", URL: "u", Creds: true}, Method: "m", Names: "n"},
		{Cell: api.Cell{Origin: "o", URL: "U", Creds: true}, Method: "m", Names: "n"},
		{Cell: cell, Method: "M", Names: "n"}, {Cell: cell, Method: "m", Names: "N"},
		{Cell: api.Cell{Origin: "u", URL: "o", Creds: true}, Method: "m", Names: "n"},
		{Cell: cell, Method: "n", Names: "m"}, {Cell: cell, Method: "mn"}, {Cell: cell, Names: "mn"}, {Cell: cell, Names: "n"},
		{Cell: api.Cell{Origin: "ou", Creds: true}, Method: "m", Names: "n"},
		{Cell: api.Cell{URL: "ou", Creds: true}, Method: "m", Names: "n"},
		{Cell: cell, Method: "m", Names: "n,n"}, {Cell: cell, Method: "m", Names: " n"}, {Cell: cell, Method: "m", Names: "n\x00"},
		{Cell: cell, Method: "m\xff", Names: "n"}, {Cell: cell, Method: "m\ufffd", Names: "n"},
	}
	q := New()
	for n, w := range wants {
		wantJoin(t, q, w, n+1, n+1, true, api.OK)
		wantLen(t, q, n+1)
	}
	for n, w := range wants {
		wantJoin(t, q, w, n+1+len(wants), n+1, false, api.OK)
		wantWant(t, q, n+1, w, true)
		wantMembers(t, q, n+1, n+1, n+1+len(wants))
	}
	wantLen(t, q, len(wants))
}

func TestEachByte(t *testing.T) {
	for _, with := range []func(string) api.Want{
		func(x string) api.Want { return api.Want{Cell: api.Cell{Origin: x}} },
		func(x string) api.Want { return api.Want{Cell: api.Cell{URL: x}} },
		func(x string) api.Want { return api.Want{Method: x} },
		func(x string) api.Want { return api.Want{Names: x} },
	} {
		for a := range 256 {
			q := New()
			wantJoin(t, q, with("x"+string([]byte{byte(a)})), 1, 1, true, api.OK)
			wantJoin(t, q, with("x"+string([]byte{byte(a)})), 2, 1, false, api.OK)
			wantJoin(t, q, with("x"+string([]byte{byte(a ^ 1)})), 3, 2, true, api.OK)
			wantJoin(t, q, with("x"+string([]byte{byte(a ^ 32)})), 4, 3, true, api.OK)
			wantJoin(t, q, with("x"), 5, 4, true, api.OK)
			wantWant(t, q, 1, with("x"+string([]byte{byte(a)})), true)
		}
	}
}

func TestMembersKeepTheirOrder(t *testing.T) {
	q, w := New(), named("PUT")
	for _, id := range []int{4, 9, 1, 64, 2} {
		q.Join(w, id)
	}
	wantMembers(t, q, 1, 4, 9, 1, 64, 2)
	wantLeave(t, q, 1, 1, false, true)
	wantMembers(t, q, 1, 4, 9, 64, 2)
	wantLeave(t, q, 4, 1, false, true)
	wantMembers(t, q, 1, 9, 64, 2)
	wantJoin(t, q, w, 4, 1, false, api.OK)
	wantMembers(t, q, 1, 9, 64, 2, 4)
	wantLeave(t, q, 4, 1, false, true)
	wantMembers(t, q, 1, 9, 64, 2)
	wantJoin(t, q, w, 1, 1, false, api.OK)
	wantDone(t, q, 1, 9, 64, 2, 1)
}

func TestLeave(t *testing.T) {
	q, v, w := New(), named("PUT"), named("DELETE")
	for _, id := range []int{1, 2, 3} {
		q.Join(v, id)
		q.Join(w, id+10)
	}
	wantLeave(t, q, 4, 0, false, false)
	wantLeave(t, q, 0, 0, false, false)
	wantLeave(t, q, -1, 0, false, false)
	wantLeave(t, q, 2, 1, false, true)
	wantOf(t, q, 2, 0)
	wantLeave(t, q, 2, 0, false, false)
	wantLeave(t, q, 1, 1, false, true)
	wantMembers(t, q, 1, 3)
	wantLen(t, q, 2)
	wantLeave(t, q, 3, 1, true, true)
	wantLeave(t, q, 3, 0, false, false)
	wantLen(t, q, 1)
	wantMembers(t, q, 1)
	wantWant(t, q, 1, api.Want{}, false)
	wantDone(t, q, 1)
	wantMembers(t, q, 2, 11, 12, 13)
	wantLeave(t, q, 13, 2, false, true)
	wantLeave(t, q, 12, 2, false, true)
	wantLeave(t, q, 11, 2, true, true)
	wantLen(t, q, 0)
}

func TestDone(t *testing.T) {
	q := New()
	for id := range 9 {
		q.Join(named("abc"[id%3:id%3+1]), 9-id)
	}
	for _, pre := range []int{math.MinInt, -1, 0, 4, math.MaxInt} {
		wantDone(t, q, pre)
		wantLen(t, q, 3)
	}
	wantDone(t, q, 2, 8, 5, 2)
	wantDone(t, q, 2)
	wantLen(t, q, 2)
	wantMembers(t, q, 2)
	wantWant(t, q, 2, api.Want{}, false)
	for _, id := range []int{8, 5, 2} {
		wantOf(t, q, id, 0)
		wantLeave(t, q, id, 0, false, false)
	}
	wantMembers(t, q, 1, 9, 6, 3)
	wantMembers(t, q, 3, 7, 4, 1)
	wantDone(t, q, 3, 7, 4, 1)
	wantDone(t, q, 1, 9, 6, 3)
	wantLen(t, q, 0)
}

// A number is given once: neither what was removed nor what was refused gives one back or takes one.
func TestNumbers(t *testing.T) {
	q, w := New(), named("PUT")
	for n := range 200 {
		wantJoin(t, q, w, 1, n+1, true, api.OK)
		wantJoin(t, q, named("other"), 1, 0, false, api.ErrTwice)
		wantJoin(t, q, named("other"), 0, 0, false, api.ErrArg)
		wantJoin(t, q, w, 2, n+1, false, api.OK)
		if n%2 == 0 {
			wantDone(t, q, n+1, 1, 2)
			continue
		}
		wantLeave(t, q, 1, n+1, false, true)
		wantLeave(t, q, 2, n+1, true, true)
	}
	wantJoin(t, q, named("a"), 1, 201, true, api.OK)
	wantJoin(t, q, named("b"), 2, 202, true, api.OK)
	wantDone(t, q, 201, 1)
	wantJoin(t, q, named("a"), 1, 203, true, api.OK)
	wantMembers(t, q, 201)
	wantMembers(t, q, 202, 2)
}

// All members of all preflights count, in whatever way they are spread.
func TestFull(t *testing.T) {
	for _, spread := range []int{1, 2, 7, 63, 64} {
		q := New()
		for n := range 64 {
			pre := n%spread + 1
			wantJoin(t, q, named(strings.Repeat("m", pre)), n+1, pre, n < spread, api.OK)
		}
		for range 3 {
			wantJoin(t, q, named("m"), 65, 0, false, api.ErrFull)
			wantJoin(t, q, named("new"), 65, 0, false, api.ErrFull)
		}
		wantJoin(t, q, named("new"), 0, 0, false, api.ErrArg)
		wantJoin(t, q, named("new"), 64, 0, false, api.ErrTwice)
		wantOf(t, q, 65, 0)
		wantLen(t, q, spread)
		wantLeave(t, q, 64, 63%spread+1, spread == 64, true)
		wantJoin(t, q, named("new"), 65, spread+1, true, api.OK)
		wantJoin(t, q, named("new"), 66, 0, false, api.ErrFull)
		wantDone(t, q, spread+1, 65)
		wantJoin(t, q, named("m"), 65, 1, false, api.OK)
		wantJoin(t, q, named("m"), 66, 0, false, api.ErrFull)
	}
	if api.MaxLive != 64 {
		t.Error("package api is changed")
	}
}

// act makes one call, by a number of an act and numbers that say with what.
func (b pair) act(kind, id, which int) {
	b.t.Helper()
	switch kind % 4 {
	case 0, 1:
		b.join(named("abcdefgh"[which%8:which%8+1]), id)
	case 2:
		b.leave(id)
	case 3:
		b.done(b.s.given - which%8)
	}
}

// All rows of four acts on three fetches and two wants.
func TestShortRows(t *testing.T) {
	const kinds, length = 11, 4
	rows := 1
	for range length {
		rows *= kinds
	}
	for row := range rows {
		b := newPair(t)
		rest := row
		for range length {
			n := rest % kinds
			rest /= kinds
			switch {
			case n < 6:
				b.join(named("ab"[n%2:n%2+1]), n/2+1)
			case n < 9:
				b.leave(n - 5)
			default:
				b.done(n - 8)
			}
		}
	}
}

func TestLongRows(t *testing.T) {
	for seed := range uint64(40) {
		r := rand.New(rand.NewPCG(seed, 18))
		b := newPair(t)
		ids := []int{3, 10, 70, 200}[seed%4]
		for range 400 {
			kind := r.IntN(4)
			if kind == 3 && r.IntN(4) > 0 {
				kind = 0
			}
			b.act(kind, r.IntN(ids+1), r.IntN(8))
		}
	}
}

// What is refused leaves all as it was.
func TestErrorsChangeNothing(t *testing.T) {
	b := newPair(t)
	for n := range 64 {
		b.join(named("abc"[n%3:n%3+1]), n+1)
	}
	for _, id := range []int{-1, 0, 1, 64, 65, math.MaxInt, math.MinInt} {
		b.join(named("a"), id)
		b.join(named("new"), id)
	}
	b.leave(65)
	b.done(4)
	b.done(2)
	b.join(named("new"), 65)
}

func TestResultsAreNewMemory(t *testing.T) {
	q, w := New(), named("PUT")
	for id := 1; id <= 5; id++ {
		q.Join(w, id)
	}
	one, two := q.Members(1), q.Members(1)
	spoil(one)
	if !slices.Equal(two, []int{1, 2, 3, 4, 5}) {
		t.Errorf("R4: two results of Members share memory: %v", two)
	}
	wantMembers(t, q, 1, 1, 2, 3, 4, 5)
	q.Join(w, 6)
	q.Leave(2)
	if !slices.Equal(two, []int{1, 2, 3, 4, 5}) {
		t.Errorf("R4: a result of Members shares memory with the table: %v", two)
	}
	gone := q.Done(1)
	for id := 11; id <= 20; id++ {
		q.Join(w, id)
	}
	if !slices.Equal(gone, []int{1, 3, 4, 5, 6}) {
		t.Errorf("R4: a result of Done shares memory with the table: %v", gone)
	}
	spoil(gone)
	wantMembers(t, q, 2, 11, 12, 13, 14, 15, 16, 17, 18, 19, 20)
}

// spoil overwrites a list and the memory behind it.
func spoil(list []int) {
	list = list[:cap(list)]
	for n := range list {
		list[n] = -7
	}
}

func TestAskingChangesNothing(t *testing.T) {
	b := newPair(t)
	b.join(named("a"), 1)
	b.join(named("b"), 2)
	for range 3 {
		b.agree(1)
		b.agree(2)
	}
	b.join(named("c"), 3)
}

func TestTablesStandAlone(t *testing.T) {
	p, q := New(), New()
	wantJoin(t, p, named("a"), 1, 1, true, api.OK)
	wantJoin(t, p, named("b"), 2, 2, true, api.OK)
	wantJoin(t, q, named("b"), 2, 1, true, api.OK)
	wantDone(t, p, 1, 1)
	wantLen(t, p, 1)
	wantLen(t, q, 1)
	wantMembers(t, q, 1, 2)
}

func TestGreatWants(t *testing.T) {
	q := New()
	long := strings.Repeat("x", 1<<20)
	for n := range 64 {
		end := string(rune('a' + n%2))
		wantJoin(t, q, api.Want{Method: long, Names: long + end}, n+1, n%2+1, n < 2, api.OK)
	}
	wantWant(t, q, 2, api.Want{Method: long, Names: long + "b"}, true)
	for n := range 64 {
		wantLeave(t, q, n+1, n%2+1, n >= 62, true)
	}
}

func TestManyRounds(t *testing.T) {
	q := New()
	for n := range 20000 {
		q.Join(named("a"), 1)
		q.Join(named("b"), 2)
		q.Join(named("a"), 3)
		q.Leave(1)
		wantDone(t, q, 2*n+1, 3)
		wantDone(t, q, 2*n+2, 2)
	}
	wantLen(t, q, 0)
}

func TestNilTable(t *testing.T) {
	var q *Table
	for _, n := range []int{-1, 0, 1, 2} {
		wantJoin(t, q, named("a"), n, 0, false, api.ErrNil)
		wantLeave(t, q, n, 0, false, false)
		wantDone(t, q, n)
		wantOf(t, q, n, 0)
		wantMembers(t, q, n)
		wantWant(t, q, n, api.Want{}, false)
	}
	wantLen(t, q, 0)
}

// A table that New has not made is promised nothing but that no call panics.
func TestBareTable(t *testing.T) {
	q := &Table{}
	for n := range 3 {
		q.Join(named("a"), n)
		q.Of(n)
		q.Members(n)
		q.Want(n)
		q.Leave(n)
		q.Done(n)
		q.Len()
	}
}

func TestNextIsAtomic(t *testing.T) {
	atomics := 0
	for field := range reflect.TypeFor[Table]().Fields() {
		if field.Type.PkgPath() == "sync/atomic" {
			atomics++
		}
	}
	if atomics != 1 {
		t.Errorf("Ways of chapter 18: %d atomic numbers", atomics)
	}
}

func TestManyAtOnce(t *testing.T) {
	var wait sync.WaitGroup
	for range 8 {
		wait.Go(func() {
			q := New()
			for n := range 200 {
				pre, fresh, code := q.Join(named("a"), 1)
				if pre != n+1 || !fresh || code != api.OK || !slices.Equal(q.Done(pre), []int{1}) {
					t.Error("R5: answers hang on other goroutines")
				}
			}
		})
	}
	wait.Wait()
}

func FuzzShare(f *testing.F) {
	f.Add([]byte("\x00\x05a\x00\x03a\x02\x05a\x03\x01a"))
	f.Add([]byte("\x00\x01a\x01\x02b\x00\x01b\x02\x01a\x02\x01a\x03\x00a"))
	f.Fuzz(func(t *testing.T, acts []byte) {
		b := newPair(t)
		for len(acts) >= 3 {
			b.act(int(acts[0]), int(acts[1]), int(acts[2]))
			acts = acts[3:]
		}
	})
}
