package rank

import (
	"fmt"
	"math"
	"math/big"
	"math/rand/v2"
	"slices"
	"sync"
	"testing"

	"lockkeeper/api"
	"lockkeeper/tick"
)

// slowClass returns the class that counts, as the chapter says it.
func slowClass(class int) int64 {
	if class < api.ClassBlock {
		return api.ClassBlock
	}
	if class > api.ClassLazy {
		return api.ClassLazy
	}
	return int64(class)
}

// slowAging returns the aging that counts, as the chapter says it.
func slowAging(aging uint64) *big.Int {
	if aging == 0 {
		aging = 1
	}
	return new(big.Int).SetUint64(aging)
}

// slowLevel is Level by the words of the chapter, in numbers without an end.
func slowLevel(class int, waited, aging uint64) int {
	steps := new(big.Int).Div(new(big.Int).SetUint64(waited), slowAging(aging))
	level := new(big.Int).Sub(big.NewInt(slowClass(class)), steps)
	if level.Cmp(big.NewInt(1)) < 0 {
		return 1
	}
	return int(level.Int64())
}

// slowWait is Wait by the words of the chapter, in numbers without an end.
func slowWait(class int, aging uint64) uint64 {
	product := new(big.Int).Mul(big.NewInt(slowClass(class)-1), slowAging(aging))
	if !product.IsUint64() {
		return tick.Max
	}
	return product.Uint64()
}

// slowLess is Less by the words of the chapter.
func slowLess(a, b api.Item, now, aging uint64) bool {
	level := func(i api.Item) int {
		if now <= i.Since {
			return slowLevel(i.Class, 0, aging)
		}
		return slowLevel(i.Class, now-i.Since, aging)
	}
	return level(a) < level(b) || level(a) == level(b) && a.ID < b.ID
}

// classes are the six, their neighbours and the ends of what an int holds.
func classes() []int {
	return []int{
		math.MinInt, math.MinInt + 1, math.MinInt32, -256, -5, -1, 0, 1, 2, 3, 4, 5, 6, 7, 8, 99, 255, 256, 257,
		math.MaxInt32, 1 << 32, 1<<32 + 3, 1 << 62, math.MaxInt - 1, math.MaxInt,
	}
}

// times are the small ones, and those about the ends of what other numbers hold.
func times() []uint64 {
	var list []uint64
	for n := range uint64(14) {
		list = append(list, n)
	}
	for _, mid := range []uint64{29, 30, 50, 1000, 5000, 1 << 31, 1 << 32, 1 << 53, 1 << 61, 1 << 62, 1 << 63, tick.Max / 5, tick.Max / 3, tick.Max / 2} {
		list = append(list, mid-1, mid, mid+1)
	}
	return append(list, tick.Max-2, tick.Max-1, tick.Max)
}

// ids are the small ones, and the ends of what an int holds.
func ids() []int {
	return []int{math.MinInt, math.MinInt + 1, -2, -1, 0, 1, 2, 63, 64, math.MaxInt - 1, math.MaxInt}
}

func item(id, class int, since uint64) api.Item {
	return api.Item{ID: id, Class: class, Since: since}
}

func checkLevel(t *testing.T, class int, waited, aging uint64) {
	t.Helper()
	if got, want := Level(class, waited, aging), slowLevel(class, waited, aging); got != want {
		t.Errorf("P19.1: Level(%d, %d, %d): %d, not %d", class, waited, aging, got, want)
	}
}

func checkWait(t *testing.T, class int, aging uint64) {
	t.Helper()
	if got, want := Wait(class, aging), slowWait(class, aging); got != want {
		t.Errorf("P19.1: Wait(%d, %d): %d, not %d", class, aging, got, want)
	}
}

func checkLess(t *testing.T, a, b api.Item, now, aging uint64) {
	t.Helper()
	if got, want := Less(a, b, now, aging), slowLess(a, b, now, aging); got != want {
		t.Errorf("P19.1: Less(%v, %v, %d, %d): %t", a, b, now, aging, got)
	}
}

func TestExamples(t *testing.T) {
	if got := Level(6, 29, 10); got != 4 {
		t.Errorf("P19.1: Level(6, 29, 10): %d", got)
	}
	if got := Level(2, 10, 10); got != 1 {
		t.Errorf("P19.1: Level(2, 10, 10): %d", got)
	}
	if got := Wait(4, 10); got != 30 {
		t.Errorf("P19.1: Wait(4, 10): %d", got)
	}
}

func TestLevelOfEachClass(t *testing.T) {
	for class, levels := range map[int][]int{
		api.ClassBlock: {1, 1, 1, 1, 1, 1, 1},
		api.ClassHigh:  {2, 1, 1, 1, 1, 1, 1},
		api.ClassMid:   {3, 2, 1, 1, 1, 1, 1},
		api.ClassLow:   {4, 3, 2, 1, 1, 1, 1},
		api.ClassDefer: {5, 4, 3, 2, 1, 1, 1},
		api.ClassLazy:  {6, 5, 4, 3, 2, 1, 1},
	} {
		for steps, want := range levels {
			for _, rest := range []uint64{0, 1, 6} {
				if got := Level(class, 7*uint64(steps)+rest, 7); got != want {
					t.Errorf("P19.1: Level(%d, %d, 7): %d, not %d", class, 7*uint64(steps)+rest, got, want)
				}
			}
		}
	}
}

func TestLevelEdges(t *testing.T) {
	for _, c := range []struct {
		class         int
		waited, aging uint64
		want          int
	}{
		{0, 0, 5, 1}, {-1, 9, 5, 1}, {math.MinInt, 0, 0, 1}, {math.MinInt, tick.Max, 1, 1},
		{7, 0, 5, 6}, {7, 5, 5, 5}, {math.MaxInt, 0, 1, 6}, {math.MaxInt, 4, 1, 2}, {math.MaxInt, 5, 1, 1},
		{6, 0, 0, 6}, {6, 1, 0, 5}, {6, 4, 0, 2}, {6, 5, 0, 1}, {6, 4, 1, 2}, {1, 0, 0, 1},
		{6, 1 << 63, 1, 1}, {6, 1 << 32, 1, 1}, {6, tick.Max, 0, 1}, {6, 1<<63 - 1, 1, 1},
		{6, tick.Max, tick.Max, 5}, {6, tick.Max - 1, tick.Max, 6}, {6, tick.Max, tick.Max / 5, 1}, {6, tick.Max - 1, tick.Max / 5, 2},
		{2, 0, 1, 2}, {2, 999, 1000, 2}, {2, 1000, 1000, 1}, {6, 4999, 1000, 2}, {6, 5000, 1000, 1},
	} {
		if got := Level(c.class, c.waited, c.aging); got != c.want {
			t.Errorf("P19.1: Level(%d, %d, %d): %d, not %d", c.class, c.waited, c.aging, got, c.want)
		}
	}
}

func TestWaitEdges(t *testing.T) {
	for _, c := range []struct {
		class       int
		aging, want uint64
	}{
		{1, 0, 0}, {1, 1, 0}, {1, tick.Max, 0}, {0, 9, 0}, {-7, tick.Max, 0}, {math.MinInt, 9, 0},
		{2, 0, 1}, {2, 10, 10}, {3, 10, 20}, {5, 10, 40}, {6, 10, 50}, {6, 0, 5}, {6, 1, 5}, {6, 1000, 5000},
		{7, 10, 50}, {math.MaxInt, 10, 50}, {math.MaxInt, 0, 5},
		{2, tick.Max, tick.Max}, {2, tick.Max - 1, tick.Max - 1}, {3, 1<<63 - 1, tick.Max - 1}, {3, 1 << 63, tick.Max},
		{4, tick.Max / 3, tick.Max}, {4, tick.Max/3 - 1, tick.Max - 3}, {4, tick.Max/3 + 1, tick.Max},
		{5, 1<<62 - 1, tick.Max - 3}, {5, 1 << 62, tick.Max}, {5, 1<<62 + 9, tick.Max},
		{6, tick.Max / 5, tick.Max}, {6, tick.Max/5 - 1, tick.Max - 5}, {6, tick.Max/5 + 1, tick.Max}, {6, tick.Max, tick.Max},
	} {
		if got := Wait(c.class, c.aging); got != c.want {
			t.Errorf("P19.1: Wait(%d, %d): %d, not %d", c.class, c.aging, got, c.want)
		}
	}
}

// TestWaitIsTheSmallest holds Wait against Level: at that time the level is 1, and a tick earlier it is not.
func TestWaitIsTheSmallest(t *testing.T) {
	for _, class := range classes() {
		for _, aging := range times() {
			wait := Wait(class, aging)
			if wait == tick.Max {
				continue
			}
			if Level(class, wait, aging) != 1 {
				t.Errorf("P19.1: Wait(%d, %d): %d, and the level is not 1", class, aging, wait)
			}
			if wait > 0 && Level(class, wait-1, aging) != 2 {
				t.Errorf("P19.1: Wait(%d, %d): %d, and a tick earlier the level is %d", class, aging, wait, Level(class, wait-1, aging))
			}
		}
	}
}

func TestLevelAndWaitByTheWords(t *testing.T) {
	for _, class := range classes() {
		for _, aging := range times() {
			checkWait(t, class, aging)
			for _, waited := range times() {
				checkLevel(t, class, waited, aging)
			}
		}
	}
}

func TestLessEdges(t *testing.T) {
	for _, c := range []struct {
		a, b       api.Item
		now, aging uint64
		want, turn bool
	}{
		{item(1, 2, 0), item(2, 3, 0), 0, 9, true, false},
		{item(2, 2, 0), item(1, 3, 0), 0, 9, true, false},
		{item(1, 2, 0), item(2, 2, 0), 0, 9, true, false},
		{item(1, 2, 0), item(1, 2, 0), 0, 9, false, false},
		{item(1, 2, 0), item(1, 5, 7), 90, 9, false, false},
		{item(-1, 2, 0), item(0, 2, 0), 0, 9, true, false},
		{item(math.MinInt, 2, 0), item(math.MaxInt, 2, 0), 0, 9, true, false},
		{item(math.MaxInt, 2, 0), item(math.MinInt, 3, 0), 0, 9, true, false},
		{item(9, 6, 0), item(1, 2, 50), 50, 10, true, false},
		{item(9, 6, 1), item(1, 2, 50), 50, 10, false, true},
		{item(9, 6, 1), item(1, 2, 41), 50, 10, false, true},
		{item(1, 6, 0), item(9, 2, 40), 40, 10, true, false},
		{item(9, 6, 0), item(1, 2, 40), 40, 10, false, true},
		{item(9, 6, 0), item(1, 2, 40), 39, 10, false, true},
		{item(1, 6, 100), item(2, 6, 200), 50, 1, true, false},
		{item(2, 6, 100), item(1, 6, 200), 100, 1, false, true},
		{item(2, 6, 100), item(1, 6, 200), 101, 1, true, false},
		{item(2, 6, tick.Max), item(1, 6, tick.Max-1), tick.Max, 1, false, true},
		{item(1, 6, tick.Max), item(2, 6, tick.Max-1), tick.Max, 1, false, true},
		{item(1, 6, tick.Max), item(2, 6, 0), 0, 1, true, false},
		{item(2, 6, 0), item(1, 1, 0), tick.Max, 1, false, true},
		{item(2, 6, 0), item(1, 5, 0), 3, 0, false, true},
		{item(2, 0, 0), item(3, 1, 0), 0, 1, true, false},
		{item(2, -9, 0), item(1, 1, 0), 0, 1, false, true},
		{item(2, 99, 0), item(1, 6, 0), 0, 1, false, true},
		{item(2, 99, 0), item(3, 6, 0), 4, 1, true, false},
	} {
		if got := Less(c.a, c.b, c.now, c.aging); got != c.want {
			t.Errorf("P19.1: Less(%v, %v, %d, %d): %t", c.a, c.b, c.now, c.aging, got)
		}
		if got := Less(c.b, c.a, c.now, c.aging); got != c.turn {
			t.Errorf("P19.1: Less(%v, %v, %d, %d): %t", c.b, c.a, c.now, c.aging, got)
		}
	}
}

// TestLessLooksAtNothingElse gives two items each other difference that an item may have.
func TestLessLooksAtNothingElse(t *testing.T) {
	for _, key := range []string{"", "a", "b"} {
		for _, pre := range []int{-1, 0, 7} {
			a, b := item(1, 3, 5), item(2, 3, 5)
			a.Key, a.Pre = key, pre
			if !Less(a, b, 5, 9) || Less(b, a, 5, 9) {
				t.Errorf("P19.1: the key %q and the preflight %d count", key, pre)
			}
			b.Key, b.Pre, a.Key, a.Pre = key, pre, "a", 3
			if !Less(a, b, 5, 9) || Less(b, a, 5, 9) {
				t.Errorf("P19.1: the key %q and the preflight %d count", key, pre)
			}
		}
	}
}

func TestLessOfSmallItems(t *testing.T) {
	var all []api.Item
	for id := range 3 {
		for class := range 9 {
			for _, since := range []uint64{0, 1, 3, 4, 9} {
				all = append(all, item(id-1, class-1, since))
			}
		}
	}
	for _, a := range all {
		for _, b := range all {
			for _, now := range []uint64{0, 1, 3, 8} {
				for aging := range uint64(4) {
					checkLess(t, a, b, now, aging)
				}
			}
		}
	}
}

func TestLongRandomRows(t *testing.T) {
	random := rand.New(rand.NewPCG(19, 1))
	number := func() uint64 {
		if random.IntN(3) == 0 {
			return random.Uint64() >> random.IntN(64)
		}
		list := times()
		return list[random.IntN(len(list))]
	}
	pick := func(list []int) int { return list[random.IntN(len(list))] }
	for range 20000 {
		now, aging := number(), number()
		a, b := item(pick(ids()), pick(classes()), number()), item(pick(ids()), pick(classes()), number())
		checkLess(t, a, b, now, aging)
		checkLess(t, b, a, now, aging)
		checkLevel(t, a.Class, now, aging)
		checkWait(t, a.Class, aging)
	}
}

// TestLessOrders sorts items whose IDs differ: each goes before all that come later, and none the other way round.
func TestLessOrders(t *testing.T) {
	random := rand.New(rand.NewPCG(19, 2))
	for range 200 {
		now, aging := random.Uint64N(60), random.Uint64N(12)
		var list []api.Item
		for id := range 20 {
			list = append(list, item(id, random.IntN(9)-1, random.Uint64N(70)))
		}
		random.Shuffle(len(list), func(i, j int) { list[i], list[j] = list[j], list[i] })
		slices.SortFunc(list, func(a, b api.Item) int {
			if Less(a, b, now, aging) {
				return -1
			}
			return 1
		})
		for i := range list {
			for j := range list {
				if Less(list[i], list[j], now, aging) != (i < j) {
					t.Fatalf("P19.1: Less orders no list: %v and %v at %d, %d", list[i], list[j], now, aging)
				}
			}
		}
	}
}

// TestNobodyWaitsForEver: an item that has waited as long as Wait tells goes before each newer one of a greater ID.
func TestNobodyWaitsForEver(t *testing.T) {
	for _, class := range classes() {
		for _, aging := range []uint64{0, 1, 7, api.MaxAging} {
			now := 100 + Wait(class, aging)
			for other := range 8 {
				if !Less(item(1, class, 100), item(2, other, now), now, aging) {
					t.Errorf("P19.1: class %d, aging %d: it has waited long enough and does not go before class %d", class, aging, other)
				}
			}
		}
	}
}

// TestManyAtOnce asks from many goroutines at the same time.
func TestManyAtOnce(t *testing.T) {
	var group sync.WaitGroup
	wrong := make([]string, 8)
	for worker := range wrong {
		group.Go(func() {
			for n := range uint64(2000) {
				class, aging := int(n%9)-1, n%13
				a, b := item(worker, class, n), item(3, 4, n/2)
				if Level(class, n, aging) != slowLevel(class, n, aging) || Wait(class, aging) != slowWait(class, aging) || Less(a, b, n, aging) != slowLess(a, b, n, aging) {
					wrong[worker] = fmt.Sprintf("R5: class %d, time %d, aging %d", class, n, aging)
				}
			}
		})
	}
	group.Wait()
	for _, fault := range wrong {
		if fault != "" {
			t.Error(fault)
		}
	}
}

func FuzzRank(f *testing.F) {
	f.Add(6, 29, uint64(10), uint64(0), 1, 2, uint64(40), uint64(7))
	f.Add(-1, 7, uint64(0), uint64(1), 2, 1, uint64(0), uint64(1<<63))
	f.Add(math.MaxInt, math.MinInt, tick.Max, tick.Max, math.MinInt, math.MaxInt, tick.Max, uint64(0))
	f.Fuzz(func(t *testing.T, class, other int, aging, since uint64, id, next int, now, later uint64) {
		checkLevel(t, class, now, aging)
		checkWait(t, class, aging)
		a, b := item(id, class, since), item(next, other, later)
		checkLess(t, a, b, now, aging)
		checkLess(t, b, a, now, aging)
	})
}
