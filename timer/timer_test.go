package timer

import (
	"math"
	"reflect"
	"slices"
	"sync"
	"testing"

	"lockkeeper/api"
)

const last uint64 = math.MaxUint64

// slow is a wheel by the words of the chapter: a list in the order of arming, searched whole.
type slow struct {
	most, given int
	armed       []alarm
}

func newSlow(most int) *slow {
	switch {
	case most < 1:
		most = 1
	case most > 256:
		most = 256
	}
	return &slow{most: most}
}

func (s *slow) arm(at uint64, tag int) (int, api.Errno) {
	if len(s.armed) == s.most {
		return 0, api.ErrFull
	}
	s.given++
	s.armed = append(s.armed, alarm{at, s.given, tag})
	return s.given, api.OK
}

func (s *slow) cancel(id int) bool {
	before := len(s.armed)
	s.armed = slices.DeleteFunc(s.armed, func(a alarm) bool { return a.id == id })
	return len(s.armed) < before
}

func (s *slow) due(now uint64) (int, int, bool) {
	at, ok := s.next()
	if !ok || at > now {
		return 0, 0, false
	}
	// The list is in the order of the numbers, so the first of the time has the smallest.
	place := slices.IndexFunc(s.armed, func(a alarm) bool { return a.at == at })
	a := s.armed[place]
	s.armed = slices.Delete(s.armed, place, place+1)
	return a.id, a.tag, true
}

func (s *slow) next() (uint64, bool) {
	if len(s.armed) == 0 {
		return 0, false
	}
	at := last
	for _, a := range s.armed {
		at = min(at, a.at)
	}
	return at, true
}

// pair is a wheel and what it should be; each call is made on both.
type pair struct {
	t *testing.T
	w *Wheel
	s *slow
}

func newPair(t *testing.T, most int) pair { return pair{t, New(most), newSlow(most)} }

func (p pair) arm(at uint64, tag int) int {
	p.t.Helper()
	id, code := p.w.Arm(at, tag)
	if wantID, wantCode := p.s.arm(at, tag); id != wantID || code != wantCode {
		p.t.Fatalf("P9.1: Arm(%d, %d): %d, %d, not %d, %d", at, tag, id, code, wantID, wantCode)
	}
	p.agree()
	return id
}

func (p pair) cancel(id int) {
	p.t.Helper()
	if got, want := p.w.Cancel(id), p.s.cancel(id); got != want {
		p.t.Fatalf("P9.1: Cancel(%d): %v, not %v", id, got, want)
	}
	p.agree()
}

func (p pair) due(now uint64) bool {
	p.t.Helper()
	id, tag, ok := p.w.Due(now)
	if wantID, wantTag, want := p.s.due(now); id != wantID || tag != wantTag || ok != want {
		p.t.Fatalf("P9.2: Due(%d): %d, %d, %v, not %d, %d, %v", now, id, tag, ok, wantID, wantTag, want)
	}
	p.agree()
	return ok
}

// agree holds against each other what can be asked without a change.
func (p pair) agree() {
	p.t.Helper()
	at, ok := p.w.Next()
	if wantAt, want := p.s.next(); at != wantAt || ok != want {
		p.t.Fatalf("P9.2: Next(): %d, %v, not %d, %v", at, ok, wantAt, want)
	}
	if got, want := p.w.Len(), len(p.s.armed); got != want {
		p.t.Fatalf("P9.1: Len(): %d, not %d", got, want)
	}
	for place := 1; place < len(p.w.heap); place++ {
		if p.w.heap[place].before(p.w.heap[(place-1)/2]) {
			p.t.Fatalf("Ways of chapter 9: no heap: the timer at %d precedes the one above it", place)
		}
	}
}

// drain takes all timers out, the foremost first.
func (p pair) drain() {
	p.t.Helper()
	for p.due(last) {
	}
	if p.w.Len() != 0 {
		p.t.Fatalf("P9.2: %d timers are never due", p.w.Len())
	}
}

func TestExample(t *testing.T) {
	w := New(9)
	w.Arm(5, 7)
	w.Arm(3, 8)
	w.Arm(3, 9)
	if id, tag, ok := w.Due(4); id != 2 || tag != 8 || !ok {
		t.Errorf("P9.2: the chapter's example: %d, %d, %v", id, tag, ok)
	}
}

func TestNewIsEmpty(t *testing.T) {
	for _, most := range []int{math.MinInt, -1, 0, 1, 5, 256, 257, math.MaxInt} {
		w := New(most)
		if w == nil {
			t.Fatalf("P9.1: New(%d): nil", most)
		}
		if at, ok := w.Next(); w.Len() != 0 || at != 0 || ok {
			t.Errorf("P9.1: New(%d) has timers", most)
		}
		if id, tag, ok := w.Due(last); id != 0 || tag != 0 || ok {
			t.Errorf("P9.2: Due of New(%d): %d, %d, %v", most, id, tag, ok)
		}
		if w.Cancel(0) || w.Cancel(1) {
			t.Errorf("P9.1: New(%d) cancels", most)
		}
	}
}

func TestMost(t *testing.T) {
	for _, c := range []struct{ most, want int }{
		{math.MinInt, 1}, {-256, 1}, {-1, 1}, {0, 1}, {1, 1}, {2, 2}, {3, 3}, {100, 100},
		{255, 255}, {256, 256}, {257, 256}, {1 << 31, 256}, {1 << 32, 256}, {math.MaxInt, 256},
	} {
		w := New(c.most)
		for n := 1; n <= c.want; n++ {
			if id, code := w.Arm(9, n); id != n || code != api.OK || w.Len() != n {
				t.Fatalf("P9.1: New(%d), timer %d: %d, %d", c.most, n, id, code)
			}
		}
		for range 3 {
			if id, code := w.Arm(0, 5); id != 0 || code != api.ErrFull || w.Len() != c.want {
				t.Errorf("P9.1: New(%d), one too many: %d, %d", c.most, id, code)
			}
		}
	}
	if api.MaxTimers != 256 {
		t.Error("package api is changed")
	}
}

func TestFullChangesNothing(t *testing.T) {
	w := New(2)
	w.Arm(5, 50)
	w.Arm(6, 60)
	for range 4 {
		if id, code := w.Arm(1, 10); id != 0 || code != api.ErrFull {
			t.Fatalf("P9.1: Arm of a full wheel: %d, %d", id, code)
		}
	}
	if at, ok := w.Next(); at != 5 || !ok || w.Len() != 2 {
		t.Errorf("P9.1, R5: what was refused is armed: %d, %v, %d", at, ok, w.Len())
	}
	if id, tag, ok := w.Due(6); id != 1 || tag != 50 || !ok {
		t.Errorf("P9.1, R5: what was refused comes due: %d, %d, %v", id, tag, ok)
	}
	if id, code := w.Arm(1, 10); id != 3 || code != api.OK {
		t.Errorf("P9.1: what was refused used a number: %d, %d", id, code)
	}
}

func TestRoomAgain(t *testing.T) {
	for _, most := range []int{1, 2, 256} {
		p := newPair(t, most)
		for tag := range most + 1 {
			p.arm(uint64(most-tag), tag)
		}
		for tag := range 20 {
			p.cancel(p.s.armed[0].id)
			p.arm(uint64(tag), tag)
			p.arm(uint64(tag), tag)
			p.due(last)
			p.due(0)
			for range 3 {
				p.arm(uint64(100-tag), tag)
			}
		}
		p.drain()
	}
}

func TestNoNumberTwice(t *testing.T) {
	w := New(3)
	want := 0
	for round := range 2000 {
		for range 5 {
			id, code := w.Arm(uint64(round), round)
			if code == api.ErrFull {
				continue
			}
			if want++; id != want {
				t.Fatalf("P9.1: number %d, not %d", id, want)
			}
		}
		if !w.Cancel(want) || !w.Cancel(want-2) {
			t.Fatalf("P9.1: Cancel of %d and %d", want, want-2)
		}
		if id, _, ok := w.Due(last); id != want-1 || !ok {
			t.Fatalf("P9.2: Due: %d, %v, not %d", id, ok, want-1)
		}
	}
}

func TestCancelOfNone(t *testing.T) {
	w := New(9)
	for _, at := range []uint64{4, 2, 6} {
		w.Arm(at, int(at))
	}
	for _, id := range []int{0, -1, -2, 4, 6, 1 << 32, 1<<32 + 1, math.MaxInt, math.MinInt} {
		if w.Cancel(id) || w.Len() != 3 {
			t.Errorf("P9.1: Cancel(%d), which is not armed", id)
		}
	}
	if !w.Cancel(1) || w.Cancel(1) || w.Len() != 2 {
		t.Error("P9.1: Cancel twice")
	}
	if id, _, _ := w.Due(2); id != 2 || w.Cancel(2) || w.Len() != 1 {
		t.Error("P9.1: Cancel of what was due")
	}
	if !w.Cancel(3) || w.Cancel(3) || w.Len() != 0 {
		t.Error("P9.1: Cancel of the last one")
	}
	if id, tag, ok := w.Due(last); id != 0 || tag != 0 || ok {
		t.Errorf("P9.1: what is cancelled comes due: %d, %d, %v", id, tag, ok)
	}
	if at, ok := w.Next(); at != 0 || ok {
		t.Errorf("P9.2: Next of none: %d, %v", at, ok)
	}
}

func TestDueAtItsTime(t *testing.T) {
	for _, at := range []uint64{0, 1, 5, 1<<31 - 1, 1 << 31, 1 << 32, 1<<63 - 1, 1 << 63, last - 1, last} {
		w := New(1)
		w.Arm(at, 7)
		if at > 0 {
			for _, now := range []uint64{0, at / 2, at - 1} {
				if id, tag, ok := w.Due(now); id != 0 || tag != 0 || ok || w.Len() != 1 {
					t.Errorf("P9.2: armed for %d, Due(%d): %d, %d, %v", at, now, id, tag, ok)
				}
			}
		}
		if got, ok := w.Next(); got != at || !ok {
			t.Errorf("P9.2: armed for %d, Next: %d, %v", at, got, ok)
		}
		if id, tag, ok := w.Due(at); id != 1 || tag != 7 || !ok || w.Len() != 0 {
			t.Errorf("P9.2: armed for %d, Due of it: %d, %d, %v", at, id, tag, ok)
		}
		if id, tag, ok := w.Due(at); id != 0 || tag != 0 || ok {
			t.Errorf("P9.2: armed for %d, due twice: %d, %d, %v", at, id, tag, ok)
		}
	}
}

func TestTimesHaveNoSign(t *testing.T) {
	p := newPair(t, 256)
	for _, at := range []uint64{last, 1 << 63, 1<<63 - 1, 0, 1<<32 + 1, 1, 1 << 32, last - 1, 1<<63 + 1} {
		p.arm(at, 1)
	}
	for _, now := range []uint64{0, 0, 1 << 31, 1 << 31, 1<<63 - 1, 1<<63 - 1, 1<<63 - 1, 1<<63 - 1, 1 << 63, 1 << 63} {
		p.due(now)
	}
	p.drain()
}

func TestDueIsOneAtATime(t *testing.T) {
	w := New(9)
	for _, at := range []uint64{3, 1, 2, 1} {
		w.Arm(at, 0)
	}
	for left, want := range []int{2, 4, 3} {
		if id, _, ok := w.Due(2); id != want || !ok || w.Len() != 3-left {
			t.Errorf("P9.2: Due(2): %d, %v, not %d; %d left", id, ok, want, w.Len())
		}
	}
	if _, _, ok := w.Due(2); ok || w.Len() != 1 {
		t.Error("P9.2: a timer is due ahead of its time")
	}
}

// A time may go back: what Due was asked before says nothing of what it is asked now.
func TestTimeMayGoBack(t *testing.T) {
	w := New(9)
	w.Arm(8, 1)
	if _, _, ok := w.Due(9); !ok {
		t.Error("P9.2: Due(9)")
	}
	if id, code := w.Arm(2, 2); id != 2 || code != api.OK {
		t.Errorf("P9.1: Arm for a time that is past: %d, %d", id, code)
	}
	if _, _, ok := w.Due(1); ok {
		t.Error("P9.2: Due(1) of a timer for 2")
	}
	if id, tag, ok := w.Due(2); id != 2 || tag != 2 || !ok {
		t.Error("P9.2: Due(2) of a timer for 2")
	}
}

func TestTagsComeBack(t *testing.T) {
	tags := []int{0, 1, -1, 7, 7, math.MaxInt, math.MinInt, 1 << 32, 0}
	w := New(len(tags))
	for place, tag := range tags {
		w.Arm(uint64(place%2), tag)
	}
	for _, at := range []uint64{0, 1} {
		for place := int(at); place < len(tags); place += 2 {
			if id, tag, ok := w.Due(at); id != place+1 || tag != tags[place] || !ok {
				t.Errorf("P9.2: Due: %d, %d, %v, not %d, %d", id, tag, ok, place+1, tags[place])
			}
		}
	}
}

// The tags run against the numbers, so that an order by tags would show.
func TestEqualTimesByNumber(t *testing.T) {
	w := New(256)
	for n := range 256 {
		w.Arm(4, -n)
	}
	for n := 1; n <= 256; n++ {
		if id, tag, ok := w.Due(4); id != n || tag != 1-n || !ok {
			t.Fatalf("P9.2: Due of equal times: %d, %d, %v, not %d", id, tag, ok, n)
		}
	}
}

func TestAskingChangesNothing(t *testing.T) {
	p := newPair(t, 9)
	for _, at := range []uint64{7, 3, 5} {
		p.arm(at, 1)
	}
	for range 5 {
		p.due(2)
		p.cancel(9)
	}
	p.drain()
}

// All short rows of three times, and of each row each timer cancelled: every place of a heap of
// seven, with the last one to be moved up, down and not at all.
func TestAllShortRows(t *testing.T) {
	const most = 7
	for row := range 2187 {
		for cancelled := range most + 1 {
			p := newPair(t, most)
			for rest, n := row, 0; n < most; n++ {
				p.arm(uint64(rest%3), n)
				rest /= 3
			}
			p.cancel(cancelled)
			p.drain()
		}
	}
}

// All orders of eight different times, drained after one of them is cancelled.
func TestAllOrders(t *testing.T) {
	times := []uint64{0, 1, 2, 3, 4, 5, 6, 7}
	turn := 0
	var visit func(done int)
	visit = func(done int) {
		if done == len(times) {
			p := newPair(t, len(times))
			for _, at := range times {
				p.arm(at, int(at))
			}
			turn++
			p.cancel(1 + turn%len(times))
			p.drain()
			return
		}
		for place := done; place < len(times); place++ {
			times[done], times[place] = times[place], times[done]
			visit(done + 1)
			times[done], times[place] = times[place], times[done]
		}
	}
	visit(0)
}

// The last of the heap, moved into another branch, has to rise there.
func TestCancelInAnotherBranch(t *testing.T) {
	p := newPair(t, 9)
	for _, at := range []uint64{1, 50, 2, 60, 70, 3, 4} {
		p.arm(at, 1)
	}
	p.cancel(4)
	p.drain()
}

func TestLongUse(t *testing.T) {
	for _, most := range []int{1, 3, 17, 256} {
		for _, spread := range []uint64{1, 5, 1000, last} {
			p := newPair(t, most)
			x := uint64(most) + spread
			for range 3000 {
				x = x*6364136223846793005 + 1442695040888963407
				number := x >> 33
				switch x >> 61 {
				case 0:
					p.due(number % spread)
				case 1:
					p.due(last)
				case 2:
					p.cancel(int(number) % (p.s.given + 2))
				case 3:
					if n := len(p.s.armed); n > 0 {
						p.cancel(p.s.armed[int(number)%n].id)
					}
				default:
					p.arm(x%spread, int(number))
				}
			}
			p.drain()
		}
	}
}

func TestManyArmings(t *testing.T) {
	w := New(256)
	for n := 1; n <= 1_000_000; n++ {
		if id, code := w.Arm(uint64(n), n); id != n || code != api.OK {
			t.Fatalf("P9.1: arming %d: %d, %d", n, id, code)
		}
		if n > 200 {
			if id, tag, ok := w.Due(uint64(n)); id != n-200 || tag != id || !ok {
				t.Fatalf("P9.2: Due after arming %d: %d, %d, %v", n, id, tag, ok)
			}
		}
	}
	if cap(w.heap) > 2*api.MaxTimers {
		t.Errorf("room for %d timers is kept", cap(w.heap))
	}
}

func TestWheelsGoAlone(t *testing.T) {
	first, second := New(2), New(2)
	first.Arm(1, 10)
	first.Arm(2, 20)
	if id, code := second.Arm(5, 50); id != 1 || code != api.OK || second.Len() != 1 {
		t.Errorf("P9.1, R5: wheels share numbers or room: %d, %d", id, code)
	}
	if !second.Cancel(1) || first.Len() != 2 {
		t.Error("P9.1, R5: wheels share timers")
	}
}

func TestNilWheel(t *testing.T) {
	var w *Wheel
	for _, n := range []int{0, 1, -1, math.MaxInt} {
		if id, code := w.Arm(uint64(n), n); id != 0 || code != api.ErrNil {
			t.Errorf("R3: Arm of a nil wheel: %d, %d", id, code)
		}
		if id, tag, ok := w.Due(uint64(n)); id != 0 || tag != 0 || ok {
			t.Errorf("R3: Due of a nil wheel: %d, %d, %v", id, tag, ok)
		}
		if w.Cancel(n) {
			t.Errorf("R3: Cancel(%d) of a nil wheel", n)
		}
	}
	if at, ok := w.Next(); at != 0 || ok || w.Len() != 0 {
		t.Errorf("R3: Next and Len of a nil wheel: %d, %v, %d", at, ok, w.Len())
	}
}

// A wheel that New has not made is promised nothing but that no call panics.
func TestBareWheel(t *testing.T) {
	w := &Wheel{}
	w.Arm(1, 1)
	w.Cancel(0)
	w.Due(last)
	w.Next()
	w.Len()
}

func TestWays(t *testing.T) {
	atomics, lists := 0, 0
	for field := range reflect.TypeFor[Wheel]().Fields() {
		switch {
		case field.Type.PkgPath() == "sync/atomic":
			atomics++
		case field.Type.Kind() == reflect.Slice:
			lists++
		}
	}
	if atomics != 1 || lists != 1 {
		t.Errorf("Ways of chapter 9: %d atomic numbers, %d slices", atomics, lists)
	}
}

func TestManyAtOnce(t *testing.T) {
	var wait sync.WaitGroup
	for worker := range 8 {
		wait.Go(func() {
			w := New(200)
			for n := range 200 {
				if id, code := w.Arm(uint64(200-n), worker); id != n+1 || code != api.OK {
					t.Error("R5: answers hang on other goroutines")
				}
			}
			for n := range 200 {
				if id, tag, ok := w.Due(last); id != 200-n || tag != worker || !ok {
					t.Error("R5: answers hang on other goroutines")
				}
			}
		})
	}
	wait.Wait()
}

func FuzzWheel(f *testing.F) {
	f.Add(4, []byte{0, 5, 0, 3, 0, 3, 2, 4})
	f.Add(0, []byte{0, 9, 0, 9, 1, 1, 0, 0, 2, 0})
	f.Add(300, []byte{3, 1, 3, 200, 0, 7, 1, 2, 2, 255})
	f.Fuzz(func(t *testing.T, most int, acts []byte) {
		p := newPair(t, most)
		for len(acts) >= 2 {
			n := acts[1]
			switch acts[0] % 4 {
			case 0:
				p.arm(uint64(n), -int(n))
			case 1:
				p.cancel(int(n))
			case 2:
				p.due(uint64(n))
			case 3:
				p.arm(last-uint64(n), int(n))
			}
			acts = acts[2:]
		}
		p.drain()
	})
}
