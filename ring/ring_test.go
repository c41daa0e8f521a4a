package ring

import (
	"math"
	"slices"
	"sync"
	"testing"

	"lockkeeper/api"
)

// slow is a ring by the words of the chapter: a list of bytes that grows at its end.
type slow struct {
	size int
	held []byte
}

func newSlow(size int) *slow {
	switch {
	case size < 1:
		size = 1
	case size > 4096:
		size = 4096
	}
	return &slow{size: size}
}

func (s *slow) put(b []byte) int {
	n := 0
	for n < len(b) && len(s.held) < s.size {
		s.held = append(s.held, b[n])
		n++
	}
	return n
}

func (s *slow) take(n int) []byte {
	var taken []byte
	for len(taken) < n && len(s.held) > 0 {
		taken = append(taken, s.held[0])
		s.held = s.held[1:]
	}
	return taken
}

func (s *slow) clear() int { return len(s.take(math.MaxInt)) }

// pair is a ring and what it should be; each call is made on both.
type pair struct {
	t *testing.T
	r *Ring
	s *slow
}

func newPair(t *testing.T, size int) pair {
	t.Helper()
	p := pair{t, New(size), newSlow(size)}
	if p.r == nil {
		t.Fatalf("P10.1: New(%d): nil", size)
	}
	p.agree()
	return p
}

func (p pair) put(b []byte) int {
	p.t.Helper()
	given := slices.Clone(b)
	got, want := p.r.Put(b), p.s.put(given)
	if got != want {
		p.t.Fatalf("P10.1: Put of %d bytes: %d, not %d", len(b), got, want)
	}
	if !slices.Equal(b, given) {
		p.t.Fatalf("R4: Put changes %v to %v", given, b)
	}
	p.agree()
	return got
}

func (p pair) take(n int) {
	p.t.Helper()
	if got, want := p.r.Take(n), p.s.take(n); !slices.Equal(got, want) {
		p.t.Fatalf("P10.1: Take(%d): %v, not %v", n, got, want)
	}
	p.agree()
}

func (p pair) clear() {
	p.t.Helper()
	if got, want := p.r.Clear(), p.s.clear(); got != want {
		p.t.Fatalf("P10.1: Clear(): %d, not %d", got, want)
	}
	p.agree()
}

// agree holds against each other what can be asked without a change, twice, since asking is to change nothing.
func (p pair) agree() {
	p.t.Helper()
	for range 2 {
		if got, want := p.r.Len(), len(p.s.held); got != want {
			p.t.Fatalf("P10.1: Len(): %d, not %d", got, want)
		}
		if got, want := p.r.Room(), p.s.size-len(p.s.held); got != want {
			p.t.Fatalf("P10.1: Room(): %d, not %d", got, want)
		}
		if got := p.r.Peek(); !slices.Equal(got, p.s.held) {
			p.t.Fatalf("P10.1: Peek(): %v, not %v", got, p.s.held)
		}
	}
}

// row returns n bytes that count on from first.
func row(first, n int) []byte {
	b := make([]byte, n)
	for place := range b {
		b[place] = byte(first + place)
	}
	return b
}

func TestExample(t *testing.T) {
	r := New(3)
	if got := r.Put([]byte{1, 2, 3, 4}); got != 3 {
		t.Errorf("P10.1: the chapter's example, Put(1 2 3 4): %d", got)
	}
	if got := r.Take(2); !slices.Equal(got, []byte{1, 2}) {
		t.Errorf("P10.1: the chapter's example, Take(2): %v", got)
	}
	if got := r.Put([]byte{5}); got != 1 {
		t.Errorf("P10.1: the chapter's example, Put(5): %d", got)
	}
	if got := r.Peek(); !slices.Equal(got, []byte{3, 5}) {
		t.Errorf("P10.1: the chapter's example, Peek: %v", got)
	}
}

func TestSizes(t *testing.T) {
	if api.MaxRing != 4096 {
		t.Error("package api is changed")
	}
	for _, c := range []struct{ size, want int }{
		{math.MinInt, 1}, {-1 << 32, 1}, {-4096, 1}, {-1, 1}, {0, 1}, {1, 1}, {2, 2}, {3, 3}, {64, 64}, {1087, 1087},
		{4095, 4095}, {4096, 4096}, {4097, 4096}, {8192, 4096}, {1 << 32, 4096}, {1<<32 + 1, 4096}, {math.MaxInt, 4096},
	} {
		r := New(c.size)
		if r.Len() != 0 || len(r.Peek()) != 0 || len(r.Take(1)) != 0 || r.Clear() != 0 {
			t.Errorf("P10.1: New(%d) is not empty", c.size)
		}
		if got := r.Room(); got != c.want {
			t.Errorf("P10.1: New(%d), Room(): %d, not %d", c.size, got, c.want)
		}
		if got := r.Put(row(0, 5000)); got != c.want || r.Len() != c.want || r.Room() != 0 {
			t.Errorf("P10.1: New(%d), Put of 5000: %d, Len %d, Room %d", c.size, got, r.Len(), r.Room())
		}
		if got := r.Take(5000); !slices.Equal(got, row(0, c.want)) {
			t.Errorf("P10.1: New(%d), Put of 5000, Take(5000): %d bytes", c.size, len(got))
		}
	}
}

func TestPutWhatFits(t *testing.T) {
	for _, c := range []struct{ held, given, want int }{
		{0, 0, 0}, {0, 1, 1}, {0, 4, 4}, {0, 5, 5}, {0, 6, 5}, {0, 1 << 20, 5},
		{3, 0, 0}, {3, 1, 1}, {3, 2, 2}, {3, 3, 2}, {3, 99, 2},
		{4, 1, 1}, {4, 2, 1}, {5, 0, 0}, {5, 1, 0}, {5, 5, 0}, {5, 99, 0},
	} {
		p := newPair(t, 5)
		p.put(row(10, c.held))
		if got := p.put(row(50, c.given)); got != c.want {
			t.Errorf("P10.1: %d of 5 held, Put of %d: %d, not %d", c.held, c.given, got, c.want)
		}
		if got, want := p.r.Peek(), slices.Concat(row(10, c.held), row(50, c.want)); !slices.Equal(got, want) {
			t.Errorf("P10.1: %d of 5 held, Put of %d, Peek: %v, not %v", c.held, c.given, got, want)
		}
	}
}

func TestPutOfNone(t *testing.T) {
	p := newPair(t, 3)
	for range 4 {
		p.put(nil)
		p.put([]byte{})
		p.put([]byte{7})
	}
}

func TestTakeFirst(t *testing.T) {
	for _, c := range []struct{ held, n, want int }{
		{0, 0, 0}, {0, 1, 0}, {0, -1, 0}, {0, math.MaxInt, 0}, {0, math.MinInt, 0},
		{1, 0, 0}, {1, 1, 1}, {1, 2, 1},
		{4, -1, 0}, {4, math.MinInt, 0}, {4, -1 << 32, 0}, {4, 0, 0}, {4, 1, 1}, {4, 3, 3}, {4, 4, 4}, {4, 5, 4},
		{4, 1 << 32, 4}, {4, math.MaxInt, 4},
		{6, 5, 5}, {6, 6, 6}, {6, 7, 6},
	} {
		r := New(6)
		r.Put(row(1, c.held))
		if got := r.Take(c.n); !slices.Equal(got, row(1, c.want)) {
			t.Errorf("P10.1: %d held, Take(%d): %v", c.held, c.n, got)
		}
		if got := r.Len(); got != c.held-c.want {
			t.Errorf("P10.1: %d held, Take(%d), Len(): %d", c.held, c.n, got)
		}
		if got := r.Room(); got != 6-c.held+c.want {
			t.Errorf("P10.1: %d held, Take(%d), Room(): %d", c.held, c.n, got)
		}
		if got := r.Peek(); !slices.Equal(got, row(1+c.want, c.held-c.want)) {
			t.Errorf("P10.1: %d held, Take(%d), Peek(): %v", c.held, c.n, got)
		}
	}
}

func TestPeekRemovesNothing(t *testing.T) {
	r := New(4)
	r.Put([]byte{9, 8, 7})
	for range 3 {
		if got := r.Peek(); !slices.Equal(got, []byte{9, 8, 7}) || r.Len() != 3 || r.Room() != 1 {
			t.Errorf("P10.1: Peek(): %v, Len %d, Room %d", got, r.Len(), r.Room())
		}
	}
	if got := r.Take(9); !slices.Equal(got, []byte{9, 8, 7}) {
		t.Errorf("P10.1: Take after Peek: %v", got)
	}
}

func TestClear(t *testing.T) {
	for held := range 6 {
		for turned := range 6 {
			r := New(5)
			r.Put(row(0, turned))
			r.Take(turned)
			r.Put(row(20, held))
			if got := r.Clear(); got != held {
				t.Errorf("P10.1: %d held, Clear(): %d", held, got)
			}
			if r.Len() != 0 || r.Room() != 5 || len(r.Peek()) != 0 || len(r.Take(1)) != 0 {
				t.Errorf("P10.1: %d held, not empty after Clear", held)
			}
			if got := r.Clear(); got != 0 {
				t.Errorf("P10.1: Clear twice: %d", got)
			}
			if got := r.Put(row(40, 9)); got != 5 || !slices.Equal(r.Peek(), row(40, 5)) {
				t.Errorf("P10.1: Put after Clear: %d, %v", got, r.Peek())
			}
		}
	}
}

// Each byte is data: none of them ends a row or stands for a free place.
func TestEachByte(t *testing.T) {
	for value := range 256 {
		p := newPair(t, 2)
		p.put([]byte{byte(value)})
		p.put([]byte{byte(value), 1})
		p.take(1)
		p.take(1)
	}
}

// Each way to be put and taken, from each place in which a ring can begin, past its end or not.
func TestAllPlaces(t *testing.T) {
	for size := 1; size <= 8; size++ {
		for turned := range size {
			for held := range size + 1 {
				for given := range size + 2 {
					for taken := range size + 2 {
						p := newPair(t, size)
						p.put(row(0, turned))
						p.take(turned)
						p.put(row(20, held))
						p.put(row(40, given))
						p.take(taken)
						p.put(row(60, given))
						p.take(size)
					}
				}
			}
		}
	}
}

// All rows of five acts on the smallest rings.
func TestAllShortRows(t *testing.T) {
	const acts, kinds = 5, 8
	rows := 1
	for range acts {
		rows *= kinds
	}
	for size := 1; size <= 3; size++ {
		for rest := range rows {
			p := newPair(t, size)
			for n := range acts {
				p.act(rest%kinds, n)
				rest /= kinds
			}
		}
	}
}

// act puts up to four bytes, takes up to three, or clears.
func (p pair) act(kind, n int) {
	p.t.Helper()
	switch {
	case kind < 4:
		p.put(row(10*n, kind+1))
	case kind < 7:
		p.take(kind - 3)
	default:
		p.clear()
	}
}

func TestLongUse(t *testing.T) {
	for _, size := range []int{-3, 1, 2, 3, 7, 64, 100, 1087, 4095, 4096, 9999} {
		p := newPair(t, size)
		x := uint64(size)
		for turn := range 2000 {
			x = x*6364136223846793005 + 1442695040888963407
			n := int(x>>33) % (p.s.size + 2)
			switch x >> 61 {
			case 0:
				p.take(n)
			case 1, 2, 3:
				p.take(n/8 + 1)
			case 4:
				p.put(row(turn, n))
			case 5, 6:
				p.put(row(turn, n/8+1))
			default:
				if n%8 == 0 {
					p.clear()
				}
			}
		}
	}
}

// A byte at a time, round and round, with the ring nearly full, nearly empty and between.
func TestByteByByte(t *testing.T) {
	for _, size := range []int{1, 2, 5, 4096} {
		for _, held := range []int{0, size / 2, size - 1} {
			r := New(size)
			r.Put(row(0, held))
			for n := range 3*size + 1 {
				if got := r.Put([]byte{byte(held + n), 99}[:1]); got != 1 {
					t.Fatalf("P10.1: size %d, %d held, Put: %d", size, held, got)
				}
				if got := r.Take(1); len(got) != 1 || got[0] != byte(n) {
					t.Fatalf("P10.1: size %d, %d held, Take(1): %v, not %d", size, held, got, byte(n))
				}
			}
			if r.Len() != held || !slices.Equal(r.Peek(), row(3*size+1, held)) {
				t.Fatalf("P10.1: size %d, %d held: %d left", size, held, r.Len())
			}
		}
	}
}

func TestArgumentIsNotKept(t *testing.T) {
	for turned := range 4 {
		r := New(4)
		r.Put(row(0, turned))
		r.Take(turned)
		b := []byte{1, 2, 3, 4}
		r.Put(b)
		copy(b, []byte{91, 92, 93, 94})
		if got := r.Peek(); !slices.Equal(got, []byte{1, 2, 3, 4}) {
			t.Errorf("R4: what was put changes with the argument: %v", got)
		}
		r.Take(4)
		r.Put([]byte{5, 6, 7, 8})
		if !slices.Equal(b, []byte{91, 92, 93, 94}) {
			t.Errorf("R4: the argument changes with the ring: %v", b)
		}
	}
}

func TestArgumentIsNotChanged(t *testing.T) {
	for turned := range 4 {
		r := New(4)
		r.Put(row(0, turned))
		r.Take(turned)
		whole := []byte{1, 2, 3, 4, 5, 6, 7, 8}
		for range 3 {
			r.Put(whole[2:4])
			r.Take(1)
			r.Put(whole[:6:7])
		}
		r.Clear()
		if !slices.Equal(whole, row(1, 8)) {
			t.Errorf("R4: Put changes the memory of its argument: %v", whole)
		}
	}
}

// spoil overwrites a result, and the memory behind it as far as its capacity lets.
func spoil(result []byte) {
	for place := range result[:cap(result)] {
		result[:cap(result)][place] = 200
	}
}

func TestResultsAreNew(t *testing.T) {
	for turned := range 5 {
		r := New(5)
		r.Put(row(0, turned))
		r.Take(turned)
		r.Put([]byte{1, 2, 3, 4, 5})
		first, second := r.Peek(), r.Peek()
		spoil(first)
		if !slices.Equal(second, row(1, 5)) || !slices.Equal(r.Peek(), row(1, 5)) {
			t.Errorf("R4: Peek shares memory: %v, %v", second, r.Peek())
		}
		taken := r.Take(2)
		spoil(taken)
		if got := r.Peek(); !slices.Equal(got, []byte{3, 4, 5}) || !slices.Equal(second, row(1, 5)) {
			t.Errorf("R4: Take shares memory: %v, %v", got, second)
		}
		rest := r.Take(9)
		r.Put([]byte{11, 12, 13, 14, 15})
		if !slices.Equal(rest, []byte{3, 4, 5}) || !slices.Equal(second, row(1, 5)) {
			t.Errorf("R4: results change with the ring: %v, %v", rest, second)
		}
		spoil(rest)
		if got := r.Peek(); !slices.Equal(got, row(11, 5)) {
			t.Errorf("R4: the ring changes with a result: %v", got)
		}
	}
}

func TestOwnResultPutBack(t *testing.T) {
	r := New(4)
	r.Put([]byte{1, 2})
	if got := r.Put(r.Peek()); got != 2 || !slices.Equal(r.Peek(), []byte{1, 2, 1, 2}) {
		t.Errorf("P10.1: Put of Peek: %d, %v", got, r.Peek())
	}
	if got := r.Put(r.Take(3)); got != 3 || !slices.Equal(r.Peek(), []byte{2, 1, 2, 1}) {
		t.Errorf("P10.1: Put of Take: %d, %v", got, r.Peek())
	}
}

func TestRingsGoAlone(t *testing.T) {
	first, second := New(3), New(3)
	first.Put([]byte{1, 2, 3})
	if second.Len() != 0 || second.Room() != 3 {
		t.Errorf("R5: rings share their bytes: %v", second.Peek())
	}
	second.Put([]byte{7, 8})
	if first.Clear() != 3 || !slices.Equal(second.Peek(), []byte{7, 8}) {
		t.Errorf("R5: rings share their bytes: %v", second.Peek())
	}
}

func TestNilRing(t *testing.T) {
	var r *Ring
	for _, b := range [][]byte{nil, {}, {1}, row(0, 5000)} {
		if got := r.Put(b); got != 0 {
			t.Errorf("R3: Put of %d bytes into a nil ring: %d", len(b), got)
		}
	}
	for _, n := range []int{math.MinInt, -1, 0, 1, 2, math.MaxInt} {
		if got := r.Take(n); len(got) != 0 {
			t.Errorf("R3: Take(%d) of a nil ring: %v", n, got)
		}
	}
	if len(r.Peek()) != 0 || r.Len() != 0 || r.Room() != 0 || r.Clear() != 0 {
		t.Errorf("R3: a nil ring: %v, %d, %d, %d", r.Peek(), r.Len(), r.Room(), r.Clear())
	}
}

// A ring that New has not made is promised nothing but that no call panics.
func TestBareRing(t *testing.T) {
	for _, b := range [][]byte{nil, {1}, row(0, 5000)} {
		r := &Ring{}
		r.Take(1)
		r.Peek()
		r.Clear()
		r.Put(b)
		r.Take(0)
		r.Take(math.MaxInt)
		r.Peek()
		r.Len()
		r.Room()
		r.Clear()
	}
}

// The ring is not moved along for each byte that is taken: ten million of them take no time to speak of.
func TestManyBytes(t *testing.T) {
	r := New(4096)
	b := row(0, 64)
	for range 63 {
		r.Put(b)
	}
	for turn := range 160_000 {
		if r.Put(b) != 64 {
			t.Fatalf("P10.1: turn %d: Put", turn)
		}
		if got := r.Take(64); len(got) != 64 || got[0] != 0 || got[63] != 63 {
			t.Fatalf("P10.1: turn %d: Take: %v", turn, got)
		}
	}
	if r.Len() != 4032 || r.Room() != 64 {
		t.Errorf("P10.1: Len %d, Room %d", r.Len(), r.Room())
	}
}

func TestManyAtOnce(t *testing.T) {
	var wait sync.WaitGroup
	for worker := range 8 {
		wait.Go(func() {
			r := New(10)
			for n := range 200 {
				r.Put(row(worker+n, 7))
				if got := r.Take(7); !slices.Equal(got, row(worker+n, 7)) {
					t.Error("R5: answers hang on other goroutines")
				}
			}
		})
	}
	wait.Wait()
}

func FuzzRing(f *testing.F) {
	f.Add(3, []byte{0, 4, 1, 2, 0, 1})
	f.Add(0, []byte{0, 1, 0, 1, 1, 9, 2, 0})
	f.Add(5000, []byte{0, 255, 1, 200, 0, 255, 3, 0})
	f.Fuzz(func(t *testing.T, size int, acts []byte) {
		p := newPair(t, size)
		for turn := 0; len(acts) >= 2; turn++ {
			n := int(acts[1])
			switch acts[0] % 4 {
			case 0:
				p.put(row(turn, n))
			case 1:
				p.take(n)
			case 2:
				p.clear()
			case 3:
				p.take(-n)
				p.put(row(turn, 16*n))
			}
			acts = acts[2:]
		}
	})
}
