package tick

import (
	"math/big"
	"reflect"
	"sync"
	"testing"
)

// edges are the times where a sum or a difference could wrap round or be off by one.
func edges() []uint64 {
	var times []uint64
	for _, middle := range []uint64{0, 5, 1 << 31, 1 << 32, 1 << 62, 1 << 63, Max} {
		for d := range uint64(3) {
			times = append(times, middle-d, middle+d)
		}
	}
	return times
}

// whole gives a number without a bound, so that the checks can't wrap round.
func whole(n uint64) *big.Int { return new(big.Int).SetUint64(n) }

func TestMaxIsTheLastTime(t *testing.T) {
	if last := Max; last != 18446744073709551615 || last+1 != 0 {
		t.Errorf("P2.1: Max is %d", last)
	}
}

func TestAdd(t *testing.T) {
	for _, c := range []struct{ a, b, want uint64 }{
		{0, 0, 0},
		{3, 7, 10},
		{7, 3, 10},
		{0, Max, Max},
		{Max, 0, Max},
		{1, Max, Max},
		{Max, 1, Max},
		{Max, Max, Max},
		{Max - 1, 1, Max},
		{Max - 1, 2, Max},
		{Max - 2, 1, Max - 1},
		{1 << 63, 1<<63 - 1, Max},
		{1 << 63, 1 << 63, Max},
		{1<<63 - 1, 1<<63 - 1, Max - 1},
		{1<<32 - 1, 1, 1 << 32},
	} {
		if got := Add(c.a, c.b); got != c.want {
			t.Errorf("P2.1: Add(%d, %d): %d, not %d", c.a, c.b, got, c.want)
		}
	}
}

func TestLeft(t *testing.T) {
	for _, c := range []struct{ now, at, want uint64 }{
		{0, 0, 0},
		{3, 7, 4},
		{7, 3, 0},
		{7, 7, 0},
		{7, 8, 1},
		{8, 7, 0},
		{0, Max, Max},
		{1, Max, Max - 1},
		{Max - 1, Max, 1},
		{Max, Max, 0},
		{Max, 0, 0},
		{Max, Max - 1, 0},
		{1, 1<<63 + 1, 1 << 63},
		{1<<63 + 1, 1, 0},
	} {
		if got := Left(c.now, c.at); got != c.want {
			t.Errorf("P2.1: Left(%d, %d): %d, not %d", c.now, c.at, got, c.want)
		}
	}
}

func TestSumsAgainstBigNumbers(t *testing.T) {
	for _, a := range edges() {
		for _, b := range edges() {
			sum := new(big.Int).Add(whole(a), whole(b))
			if sum.Cmp(whole(Max)) > 0 {
				sum = whole(Max)
			}
			if got := Add(a, b); whole(got).Cmp(sum) != 0 {
				t.Errorf("P2.1: Add(%d, %d): %d, not %s", a, b, got, sum)
			}
			left := new(big.Int).Sub(whole(b), whole(a))
			if left.Sign() < 0 {
				left = whole(0)
			}
			if got := Left(a, b); whole(got).Cmp(left) != 0 {
				t.Errorf("P2.1: Left(%d, %d): %d, not %s", a, b, got, left)
			}
		}
	}
}

func TestNewShowsItsTime(t *testing.T) {
	for _, at := range edges() {
		c := New(at)
		if c == nil {
			t.Fatalf("P2.2: New(%d): nil", at)
		}
		if got := c.Now(); got != at {
			t.Errorf("P2.2: New(%d) shows %d", at, got)
		}
		if got := c.Now(); got != at {
			t.Errorf("P2.2: Now moves the clock from %d to %d", at, got)
		}
	}
}

func TestStep(t *testing.T) {
	for _, at := range edges() {
		for _, n := range edges() {
			c, want := New(at), Add(at, n)
			if got := c.Step(n); got != want {
				t.Errorf("P2.2: New(%d), Step(%d): %d, not %d", at, n, got, want)
			}
			if got := c.Now(); got != want {
				t.Errorf("P2.2: New(%d), Step(%d), Now: %d, not %d", at, n, got, want)
			}
		}
	}
}

func TestStepsAddUp(t *testing.T) {
	c := New(5)
	for _, s := range []struct{ n, want uint64 }{
		{0, 5},
		{1, 6},
		{1, 7},
		{600, 607},
		{0, 607},
		{Max - 608, Max - 1},
		{5, Max},
		{1, Max},
		{0, Max},
		{Max, Max},
	} {
		if got := c.Step(s.n); got != s.want || c.Now() != s.want {
			t.Errorf("P2.2: Step(%d): %d, and the clock shows %d, not %d", s.n, got, c.Now(), s.want)
		}
	}
}

func TestPast(t *testing.T) {
	for _, now := range edges() {
		c := New(now)
		for _, at := range edges() {
			if got, want := c.Past(at), whole(at).Cmp(whole(now)) <= 0; got != want {
				t.Errorf("P2.2: New(%d), Past(%d): %v", now, at, got)
			}
		}
		if c.Now() != now {
			t.Errorf("P2.2: Past moves the clock from %d to %d", now, c.Now())
		}
	}
}

func TestPastFollowsSteps(t *testing.T) {
	c := New(0)
	if !c.Past(0) || c.Past(1) || c.Past(Max) {
		t.Error("P2.2: Past at the time 0")
	}
	c.Step(7)
	if !c.Past(6) || !c.Past(7) || c.Past(8) {
		t.Error("P2.2: Past at the time 7")
	}
	c.Step(Max)
	if !c.Past(Max) || !c.Past(0) {
		t.Error("P2.2: Past at the last time")
	}
}

func TestClocksGoAlone(t *testing.T) {
	first, second := New(5), New(5)
	first.Step(3)
	if first.Now() != 8 || second.Now() != 5 {
		t.Errorf("P2.2, R4: clocks share their time: %d and %d", first.Now(), second.Now())
	}
}

func TestNilClock(t *testing.T) {
	var c *Clock
	for _, n := range edges() {
		if got := c.Step(n); got != 0 {
			t.Errorf("P2.2, R3: Step(%d) of a nil clock: %d", n, got)
		}
		if c.Past(n) {
			t.Errorf("P2.2: Past(%d) of a nil clock: true", n)
		}
		if got := c.Now(); got != 0 {
			t.Errorf("P2.2, R3: Now of a nil clock: %d", got)
		}
	}
}

func TestTimeIsAtomic(t *testing.T) {
	clock := reflect.TypeFor[Clock]()
	if clock.NumField() != 1 || clock.Field(0).Type.PkgPath() != "sync/atomic" {
		t.Error("Ways of chapter 2: the time of a clock is not one atomic number")
	}
}

func TestManyAtOnce(t *testing.T) {
	var wait sync.WaitGroup
	for worker := range uint64(8) {
		wait.Go(func() {
			for n := range uint64(200) {
				c := New(worker)
				if Add(worker, n) != worker+n || Left(worker, worker+n) != n || c.Step(n) != worker+n {
					t.Error("R5: answers hang on other goroutines")
				}
			}
		})
	}
	wait.Wait()
}
