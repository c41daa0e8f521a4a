package stream

import (
	"math"
	"reflect"
	"slices"
	"sync"
	"testing"

	"lockkeeper/api"
)

// slow is a stream by the words of the chapter: its buffer is a list that grows at its end.
type slow struct {
	high, low int
	state     int
	paused    bool
	held      []byte
}

func newSlow(high, low int) *slow {
	switch {
	case high < 1:
		high = 1
	case high > 1024:
		high = 1024
	}
	switch {
	case low < 0:
		low = 0
	case low > high-1:
		low = high - 1
	}
	return &slow{high: high, low: low, state: 1}
}

func (s *slow) chunk(b []byte) api.Errno {
	if s.state != 1 {
		return api.ErrState
	}
	if len(b) == 0 || len(b) > 64 {
		return api.ErrSize
	}
	if s.paused {
		return api.ErrFull
	}
	s.held = append(s.held, b...)
	if len(s.held) >= s.high {
		s.paused = true
	}
	return api.OK
}

func (s *slow) end() api.Errno {
	if s.state != 1 {
		return api.ErrState
	}
	s.state, s.paused = 2, false
	return api.OK
}

func (s *slow) read(n int) []byte {
	var read []byte
	for len(read) < n && len(s.held) > 0 {
		read = append(read, s.held[0])
		s.held = s.held[1:]
	}
	if len(s.held) <= s.low {
		s.paused = false
	}
	return read
}

func (s *slow) stop() bool {
	if s.state == 3 {
		return false
	}
	s.state, s.paused, s.held = 3, false, nil
	return true
}

func (s *slow) over() bool { return s.state == 2 && len(s.held) == 0 || s.state == 3 }

// pair is a stream and what it should be; each call is made on both.
type pair struct {
	t *testing.T
	s *Stream
	m *slow
}

func newPair(t *testing.T, high, low int) pair {
	t.Helper()
	p := pair{t, New(high, low), newSlow(high, low)}
	if p.s == nil {
		t.Fatalf("P11.1: New(%d, %d): nil", high, low)
	}
	p.agree()
	return p
}

func (p pair) chunk(b []byte) api.Errno {
	p.t.Helper()
	given := slices.Clone(b)
	got, want := p.s.Chunk(b), p.m.chunk(given)
	if got != want {
		p.t.Fatalf("P11.2: Chunk of %d bytes: %d, not %d", len(b), got, want)
	}
	if !slices.Equal(b, given) {
		p.t.Fatalf("R4: Chunk changes %v to %v", given, b)
	}
	p.agree()
	return got
}

func (p pair) end() {
	p.t.Helper()
	if got, want := p.s.End(), p.m.end(); got != want {
		p.t.Fatalf("P11.2: End(): %d, not %d", got, want)
	}
	p.agree()
}

func (p pair) read(n int) {
	p.t.Helper()
	if got, want := p.s.Read(n), p.m.read(n); !slices.Equal(got, want) {
		p.t.Fatalf("P11.2: Read(%d): %v, not %v", n, got, want)
	}
	p.agree()
}

func (p pair) stop() {
	p.t.Helper()
	if got, want := p.s.Stop(), p.m.stop(); got != want {
		p.t.Fatalf("P11.2: Stop(): %t, not %t", got, want)
	}
	p.agree()
}

// agree holds against each other what can be asked without a change, twice, since asking is to change nothing.
func (p pair) agree() {
	p.t.Helper()
	for range 2 {
		if got := p.s.State(); got != p.m.state {
			p.t.Fatalf("P11.1: State(): %d, not %d", got, p.m.state)
		}
		if got := p.s.Len(); got != len(p.m.held) {
			p.t.Fatalf("P11.1: Len(): %d, not %d", got, len(p.m.held))
		}
		if got := p.s.Paused(); got != p.m.paused {
			p.t.Fatalf("P11.1: Paused(): %t, not %t", got, p.m.paused)
		}
		if got := p.s.Over(); got != p.m.over() {
			p.t.Fatalf("P11.1: Over(): %t, not %t", got, p.m.over())
		}
	}
	if len(p.m.held) > p.m.high-1+64 {
		p.t.Fatalf("P11.3: %d bytes with the mark %d", len(p.m.held), p.m.high)
	}
}

// row returns n bytes that count on from first.
func row(first, n int) []byte {
	b := make([]byte, n)
	for place := range b {
		b[place] = byte(first + place)
	}
	return b
}

func TestExample(t *testing.T) {
	s := New(2, 0)
	if got := s.Chunk([]byte{1, 2}); got != api.OK {
		t.Errorf("P11.2: the chapter's example, Chunk(1 2): %d", got)
	}
	if got := s.Chunk([]byte{3}); got != api.ErrFull {
		t.Errorf("P11.2: the chapter's example, Chunk(3): %d", got)
	}
	if got := s.Read(1); !slices.Equal(got, []byte{1}) {
		t.Errorf("P11.2: the chapter's example, Read(1): %v", got)
	}
	if got := s.Chunk([]byte{3}); got != api.ErrFull {
		t.Errorf("P11.2: the chapter's example, Chunk(3) after Read(1): %d", got)
	}
	if got := s.Read(9); !slices.Equal(got, []byte{2}) {
		t.Errorf("P11.2: the chapter's example, Read(9): %v", got)
	}
	if got := s.Chunk([]byte{3}); got != api.OK {
		t.Errorf("P11.2: the chapter's example, Chunk(3) after Read(9): %d", got)
	}
}

func TestNumbers(t *testing.T) {
	if api.StreamOpen != 1 || api.StreamEnded != 2 || api.StreamStops != 3 || api.MaxHigh != 1024 || api.MaxChunk != 64 {
		t.Error("package api is changed")
	}
}

// marks finds out by bytes one at a time at how many the stream is paused, and at how many it goes on.
func marks(s *Stream) (int, int) {
	for !s.Paused() {
		s.Chunk([]byte{1})
	}
	high := s.Len()
	for s.Paused() {
		s.Read(1)
	}
	return high, s.Len()
}

func TestMarks(t *testing.T) {
	for _, c := range []struct{ high, low, wantHigh, wantLow int }{
		{1, 0, 1, 0}, {1, 1, 1, 0}, {1, -1, 1, 0}, {0, 0, 1, 0}, {-1, 0, 1, 0}, {-1, -2, 1, 0}, {-9, 5, 1, 0},
		{math.MinInt, math.MinInt, 1, 0}, {math.MinInt, math.MaxInt, 1, 0},
		{2, 0, 2, 0}, {2, 1, 2, 1}, {2, 2, 2, 1}, {2, 3, 2, 1}, {2, -1, 2, 0},
		{7, 0, 7, 0}, {7, 3, 7, 3}, {7, 5, 7, 5}, {7, 6, 7, 6}, {7, 7, 7, 6}, {7, 8, 7, 6}, {7, -7, 7, 0}, {7, math.MinInt, 7, 0}, {7, math.MaxInt, 7, 6},
		{64, 63, 64, 63}, {65, 64, 65, 64}, {1 << 32, 0, 1024, 0}, {5, 1 << 32, 5, 4}, {5, -1 << 32, 5, 0},
		{1023, 1022, 1023, 1022}, {1023, 1023, 1023, 1022}, {1024, 0, 1024, 0}, {1024, 1023, 1024, 1023}, {1024, 1024, 1024, 1023},
		{1025, 1024, 1024, 1023}, {1025, 1023, 1024, 1023}, {1025, 512, 1024, 512}, {math.MaxInt, math.MaxInt, 1024, 1023}, {math.MaxInt, 0, 1024, 0},
	} {
		s := New(c.high, c.low)
		if s.State() != 1 || s.Len() != 0 || s.Paused() || s.Over() || len(s.Read(1)) != 0 {
			t.Errorf("P11.1: New(%d, %d): State %d, Len %d, Paused %t, Over %t", c.high, c.low, s.State(), s.Len(), s.Paused(), s.Over())
		}
		high, low := marks(s)
		if high != c.wantHigh || low != c.wantLow {
			t.Errorf("P11.1: New(%d, %d): paused at %d, goes on at %d", c.high, c.low, high, low)
		}
	}
}

func TestChunkSizes(t *testing.T) {
	for _, c := range []struct {
		n    int
		want api.Errno
	}{{0, api.ErrSize}, {1, api.OK}, {2, api.OK}, {63, api.OK}, {64, api.OK}, {65, api.ErrSize}, {128, api.ErrSize}, {1 << 20, api.ErrSize}} {
		p := newPair(t, 1024, 3)
		if got := p.chunk(row(1, c.n)); got != c.want {
			t.Errorf("P11.2: Chunk of %d bytes: %d, not %d", c.n, got, c.want)
		}
		p.read(1 << 20)
	}
	p := newPair(t, 3, 0)
	if got := p.chunk([]byte{}); got != api.ErrSize {
		t.Errorf("P11.2: Chunk of no bytes: %d", got)
	}
}

// Which error applies first, of all that apply.
func TestChunkErrors(t *testing.T) {
	sizes := map[string][]byte{"none": nil, "fits": {1}, "too many": row(0, 65)}
	for name, b := range sizes {
		for _, c := range []struct {
			what   string
			make   func(p pair)
			size   api.Errno
			filled api.Errno
		}{
			{"open", func(p pair) {}, api.ErrSize, api.OK},
			{"paused", func(p pair) { p.chunk(row(0, 9)) }, api.ErrSize, api.ErrFull},
			{"ended", func(p pair) { p.end() }, api.ErrState, api.ErrState},
			{"ended, was paused", func(p pair) { p.chunk(row(0, 9)); p.end() }, api.ErrState, api.ErrState},
			{"stopped", func(p pair) { p.stop() }, api.ErrState, api.ErrState},
			{"stopped, was paused", func(p pair) { p.chunk(row(0, 9)); p.stop() }, api.ErrState, api.ErrState},
			{"stopped, was ended", func(p pair) { p.chunk(row(0, 9)); p.end(); p.stop() }, api.ErrState, api.ErrState},
		} {
			p := newPair(t, 9, 2)
			c.make(p)
			want := c.size
			if name == "fits" {
				want = c.filled
			}
			if got := p.chunk(b); got != want {
				t.Errorf("P11.2: %s, Chunk of %s: %d, not %d", c.what, name, got, want)
			}
		}
	}
}

// What is refused leaves no trace.
func TestRefusedChangesNothing(t *testing.T) {
	s := New(3, 1)
	s.Chunk([]byte{1, 2, 3})
	if s.Chunk([]byte{4}) != api.ErrFull || s.Chunk(nil) != api.ErrSize || s.Chunk(row(0, 65)) != api.ErrSize {
		t.Error("P11.2: Chunk of a paused stream")
	}
	if s.Len() != 3 || !s.Paused() || s.State() != 1 {
		t.Errorf("R5: Len %d, Paused %t, State %d", s.Len(), s.Paused(), s.State())
	}
	s.End()
	if s.Chunk([]byte{4}) != api.ErrState || s.End() != api.ErrState || s.State() != 2 || s.Paused() {
		t.Errorf("R5: State %d, Paused %t", s.State(), s.Paused())
	}
	if got := s.Read(9); !slices.Equal(got, []byte{1, 2, 3}) {
		t.Errorf("R5: Read(9): %v", got)
	}
	s.Stop()
	if s.End() != api.ErrState || s.State() != 3 || !s.Over() {
		t.Errorf("R5: State %d after End of a stopped stream", s.State())
	}
}

// At the high mark, one below, and by one chunk far above.
func TestPause(t *testing.T) {
	for _, c := range []struct {
		high, held, given int
		want              bool
	}{
		{1, 0, 1, true}, {1, 0, 64, true}, {2, 0, 1, false}, {2, 0, 2, true}, {2, 1, 1, true}, {2, 1, 64, true},
		{10, 3, 6, false}, {10, 3, 7, true}, {10, 3, 8, true}, {10, 9, 1, true}, {10, 9, 64, true}, {10, 0, 9, false},
		{64, 0, 63, false}, {64, 0, 64, true}, {65, 0, 64, false}, {65, 1, 64, true},
	} {
		p := newPair(t, c.high, 0)
		for n := range c.held {
			p.chunk([]byte{byte(n)})
		}
		p.chunk(row(100, c.given))
		if got := p.s.Paused(); got != c.want {
			t.Errorf("P11.2: mark %d, %d held, Chunk of %d, Paused(): %t", c.high, c.held, c.given, got)
		}
	}
}

func TestGoesOn(t *testing.T) {
	for _, c := range []struct {
		low, held, n int
		want         bool
	}{
		{0, 5, 4, true}, {0, 5, 5, false}, {0, 5, 6, false}, {0, 5, math.MaxInt, false}, {0, 5, 0, true}, {0, 5, -5, true}, {0, 5, math.MinInt, true},
		{2, 5, 2, true}, {2, 5, 3, false}, {2, 5, 4, false}, {2, 5, 5, false}, {4, 5, 0, true}, {4, 5, -1, true}, {4, 5, 1, false}, {4, 5, 2, false},
		{4, 64, 59, true}, {4, 64, 60, false}, {4, 64, 61, false},
	} {
		p := newPair(t, 5, c.low)
		p.chunk(row(0, c.held))
		p.read(c.n)
		if got := p.s.Paused(); got != c.want {
			t.Errorf("P11.2: low mark %d, %d held, Read(%d), Paused(): %t", c.low, c.held, c.n, got)
		}
	}
}

// Between the marks a stream stays what it was: paused when it came from above, not when it came from below.
func TestBetweenTheMarks(t *testing.T) {
	p := newPair(t, 6, 2)
	p.chunk(row(0, 4))
	p.read(1)
	if p.s.Paused() || p.chunk([]byte{1}) != api.OK {
		t.Error("P11.2: paused below the high mark")
	}
	p.chunk(row(9, 2))
	p.read(3)
	if !p.s.Paused() || p.chunk([]byte{1}) != api.ErrFull {
		t.Error("P11.2: not paused above the low mark")
	}
	p.read(1)
	if p.s.Paused() || p.chunk([]byte{1}) != api.OK {
		t.Error("P11.2: paused at the low mark")
	}
}

func TestRead(t *testing.T) {
	for _, c := range []struct{ held, n, want int }{
		{0, 0, 0}, {0, 1, 0}, {0, -1, 0}, {0, math.MaxInt, 0}, {0, math.MinInt, 0},
		{1, 0, 0}, {1, 1, 1}, {1, 2, 1}, {4, -1, 0}, {4, 0, 0}, {4, 1, 1}, {4, 3, 3}, {4, 4, 4}, {4, 5, 4}, {4, 1 << 32, 4}, {4, math.MaxInt, 4}, {4, math.MinInt, 0},
		{64, 63, 63}, {64, 64, 64}, {64, 65, 64},
	} {
		for _, ended := range []bool{false, true} {
			s := New(200, 100)
			s.Chunk(row(1, c.held))
			if ended {
				s.End()
			}
			if got := s.Read(c.n); !slices.Equal(got, row(1, c.want)) {
				t.Errorf("P11.2: %d held, Read(%d): %v", c.held, c.n, got)
			}
			if got := s.Len(); got != c.held-c.want {
				t.Errorf("P11.2: %d held, Read(%d), Len(): %d", c.held, c.n, got)
			}
			if got, want := s.Read(99), row(1+c.want, c.held-c.want); !slices.Equal(got, want) {
				t.Errorf("P11.2: %d held, Read(%d), the rest: %v", c.held, c.n, got)
			}
		}
	}
}

func TestEnd(t *testing.T) {
	for _, held := range []int{0, 1, 4, 5, 64} {
		p := newPair(t, 5, 1)
		p.chunk(row(0, held))
		if got := p.s.End(); got != api.OK || p.m.end() != api.OK {
			t.Fatalf("P11.2: %d held, End(): %d", held, got)
		}
		p.agree()
		if p.s.State() != 2 || p.s.Paused() || p.s.Len() != held || p.s.Over() != (held == 0) {
			t.Errorf("P11.2: %d held, after End: State %d, Paused %t, Len %d, Over %t", held, p.s.State(), p.s.Paused(), p.s.Len(), p.s.Over())
		}
		p.end()
		p.read(held - 1)
		if p.s.Over() != (held == 0) {
			t.Errorf("P11.1: %d held, all but one read, Over(): %t", held, p.s.Over())
		}
		p.read(1)
		if !p.s.Over() || p.s.State() != 2 {
			t.Errorf("P11.1: %d held, all read, Over(): %t", held, p.s.Over())
		}
	}
}

// An open stream is not over, however empty it is.
func TestOpenIsNotOver(t *testing.T) {
	p := newPair(t, 2, 0)
	p.chunk([]byte{1, 2})
	p.read(2)
	if p.s.Over() || p.s.State() != 1 {
		t.Errorf("P11.1: open and empty: Over %t, State %d", p.s.Over(), p.s.State())
	}
}

func TestStop(t *testing.T) {
	for _, held := range []int{0, 1, 4, 5, 64} {
		for _, ended := range []bool{false, true} {
			p := newPair(t, 5, 1)
			p.chunk(row(0, held))
			if ended {
				p.end()
			}
			if !p.s.Stop() || !p.m.stop() {
				t.Fatalf("P11.2: %d held, ended %t, Stop(): false", held, ended)
			}
			p.agree()
			if p.s.State() != 3 || p.s.Paused() || p.s.Len() != 0 || !p.s.Over() {
				t.Errorf("P11.2: %d held, after Stop: State %d, Paused %t, Len %d, Over %t", held, p.s.State(), p.s.Paused(), p.s.Len(), p.s.Over())
			}
			for range 2 {
				if p.s.Stop() {
					t.Errorf("P11.2: %d held, Stop() twice: true", held)
				}
			}
			p.read(1)
			p.read(99)
			p.end()
			p.chunk([]byte{1})
			p.stop()
		}
	}
}

// The greatest number of bytes that each mark lets in: all but one of the mark, and the longest chunk.
func TestMostBytes(t *testing.T) {
	for high := 1; high <= 1024; high++ {
		p := newPair(t, high, 0)
		for left := high - 1; left > 0; left -= 64 {
			p.chunk(row(left, min(left, 64)))
		}
		if p.chunk(row(7, 64)) != api.OK || p.s.Len() != high-1+64 || !p.s.Paused() {
			t.Fatalf("P11.3: mark %d: Len %d", high, p.s.Len())
		}
		p.chunk([]byte{1})
		p.read(2048)
	}
}

// All rows of five acts on streams with small marks.
func TestAllShortRows(t *testing.T) {
	const acts, kinds = 5, 9
	rows := 1
	for range acts {
		rows *= kinds
	}
	for high := 1; high <= 3; high++ {
		for low := range high {
			for rest := range rows {
				p := newPair(t, high, low)
				for n := range acts {
					p.act(rest%kinds, n)
					rest /= kinds
				}
			}
		}
	}
}

// act gives a chunk of up to three bytes, reads up to two, ends, or stops.
func (p pair) act(kind, n int) {
	p.t.Helper()
	switch {
	case kind < 4:
		p.chunk(row(10*n, kind))
	case kind < 7:
		p.read(kind - 4)
	case kind == 7:
		p.end()
	default:
		p.stop()
	}
}

func TestLongUse(t *testing.T) {
	for _, c := range []struct{ high, low int }{{-3, 5}, {1, 0}, {2, 1}, {5, 2}, {40, 10}, {64, 0}, {65, 64}, {300, 299}, {1023, 7}, {1024, 512}, {4096, 0}} {
		p := newPair(t, c.high, c.low)
		x := uint64(c.high)
		for turn := range 3000 {
			x = x*6364136223846793005 + 1442695040888963407
			n := int(x >> 33)
			switch x >> 61 {
			case 0, 1, 2, 3:
				p.chunk(row(turn, n%67))
			case 4, 5:
				p.read(n % 80)
			case 6:
				p.read(n % 1200)
			default:
				p.read(-n)
			}
		}
		p.end()
		p.read(3)
		p.read(2048)
	}
}

// What is read is what was let in, byte for byte, for all values of a byte.
func TestOrder(t *testing.T) {
	s := New(100, 30)
	var in, out []byte
	for turn := range 4000 {
		b := row(turn*31, turn%64+1)
		if s.Chunk(b) == api.OK {
			in = append(in, b...)
		}
		out = append(out, s.Read(turn*7%45)...)
		if s.Len() != len(in)-len(out) {
			t.Fatalf("P11.3: turn %d: Len %d, not %d", turn, s.Len(), len(in)-len(out))
		}
	}
	s.End()
	if out = append(out, s.Read(9999)...); !slices.Equal(in, out) || len(in) < 70_000 {
		t.Errorf("P11.3: %d bytes in, %d bytes out", len(in), len(out))
	}
}

func TestArgumentIsNotKept(t *testing.T) {
	s := New(8, 0)
	whole := []byte{1, 2, 3, 4, 5}
	s.Chunk(whole[1:3])
	s.Chunk(whole[:1])
	if !slices.Equal(whole, row(1, 5)) {
		t.Errorf("R4: Chunk changes the memory of its argument: %v", whole)
	}
	copy(whole, []byte{91, 92, 93})
	if got := s.Read(9); !slices.Equal(got, []byte{2, 3, 1}) {
		t.Errorf("R4: the buffer changes with the argument: %v", got)
	}
	s.Chunk([]byte{6, 7, 8})
	if !slices.Equal(whole, []byte{91, 92, 93, 4, 5}) {
		t.Errorf("R4: the argument changes with the buffer: %v", whole)
	}
}

// spoil overwrites a result, and the memory behind it as far as its capacity lets.
func spoil(result []byte) {
	for place := range result[:cap(result)] {
		result[:cap(result)][place] = 200
	}
}

func TestResultsAreNew(t *testing.T) {
	s := New(8, 0)
	s.Chunk(row(1, 6))
	first := s.Read(2)
	second := s.Read(2)
	spoil(first)
	if !slices.Equal(second, []byte{3, 4}) {
		t.Errorf("R4: results share memory: %v", second)
	}
	if got := s.Read(9); !slices.Equal(got, []byte{5, 6}) {
		t.Errorf("R4: the buffer changes with a result: %v", got)
	}
	s.Chunk(row(50, 7))
	s.Stop()
	if !slices.Equal(second, []byte{3, 4}) {
		t.Errorf("R4: a result changes with the buffer: %v", second)
	}
}

func TestStreamsGoAlone(t *testing.T) {
	first, second := New(2, 0), New(2, 0)
	first.Chunk([]byte{1, 2})
	if second.Paused() || second.Len() != 0 {
		t.Error("R5: streams share their bytes")
	}
	second.Chunk([]byte{3})
	first.Stop()
	if second.State() != 1 || second.Len() != 1 || !second.Stop() {
		t.Error("R5: streams share their state")
	}
}

func TestNilStream(t *testing.T) {
	var s *Stream
	for _, b := range [][]byte{nil, {}, {1}, row(0, 64), row(0, 65)} {
		if got := s.Chunk(b); got != api.ErrNil {
			t.Errorf("R3: Chunk of %d bytes, nil stream: %d", len(b), got)
		}
	}
	for range 2 {
		if got := s.End(); got != api.ErrNil {
			t.Errorf("R3: End of a nil stream: %d", got)
		}
		if s.Stop() {
			t.Error("R3: Stop of a nil stream")
		}
	}
	for _, n := range []int{math.MinInt, -1, 0, 1, math.MaxInt} {
		if got := s.Read(n); len(got) != 0 {
			t.Errorf("R3: Read(%d) of a nil stream: %v", n, got)
		}
	}
	if s.State() != 0 || s.Len() != 0 || s.Paused() || s.Over() {
		t.Errorf("R3: a nil stream: %d, %d, %t, %t", s.State(), s.Len(), s.Paused(), s.Over())
	}
}

// A stream that New has not made is promised nothing but that no call panics.
func TestBareStream(t *testing.T) {
	for _, b := range [][]byte{nil, {1}, row(0, 65)} {
		s := &Stream{}
		for range 2 {
			s.Chunk(b)
			s.Read(1)
			s.Read(math.MaxInt)
			s.End()
			s.State()
			s.Len()
			s.Paused()
			s.Over()
			s.Stop()
		}
	}
}

func TestManyAtOnce(t *testing.T) {
	var wait sync.WaitGroup
	for worker := range 8 {
		wait.Go(func() {
			for n := range 100 {
				s := New(9, 3)
				s.Chunk(row(worker+n, 9))
				if got := s.Read(6); !slices.Equal(got, row(worker+n, 6)) || s.Paused() || !s.Stop() {
					t.Error("R5: answers hang on other goroutines")
				}
			}
		})
	}
	wait.Wait()
}

// Each chunk costs what it is long, not what the buffer holds.
func TestManyBytes(t *testing.T) {
	s := New(1024, 1000)
	for range 15 {
		s.Chunk(row(0, 64))
	}
	for turn := range 200_000 {
		if s.Chunk(row(0, 8)) != api.OK || len(s.Read(8)) != 8 {
			t.Fatalf("P11.2: turn %d", turn)
		}
	}
	if s.Len() != 960 || s.Paused() {
		t.Errorf("P11.2: Len %d, Paused %t", s.Len(), s.Paused())
	}
}

func TestWays(t *testing.T) {
	stream := reflect.TypeFor[Stream]()
	once := reflect.TypeFor[sync.Once]()
	for place := range stream.NumField() {
		if stream.Field(place).Type == once {
			return
		}
	}
	t.Error("Ways: no sync.Once in Stream")
}

func FuzzStream(f *testing.F) {
	f.Add(2, 0, []byte{0, 2, 0, 1, 1, 1, 0, 1, 1, 9, 0, 1})
	f.Add(0, 9, []byte{0, 64, 2, 0, 1, 9, 3, 0})
	f.Add(1024, 512, []byte{0, 64, 0, 65, 1, 200, 3, 0, 0, 1})
	f.Fuzz(func(t *testing.T, high, low int, acts []byte) {
		p := newPair(t, high, low)
		for turn := 0; len(acts) >= 2; turn++ {
			n := int(acts[1])
			switch acts[0] % 5 {
			case 0:
				p.chunk(row(turn, n%70))
			case 1:
				p.read(8 * n)
			case 2:
				p.read(-n)
				p.read(n)
			case 3:
				p.end()
			case 4:
				p.stop()
			}
			acts = acts[2:]
		}
	})
}
