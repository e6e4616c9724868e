package plan_test

import (
	"math"
	"math/big"
	"math/rand"
	"slices"
	"sync"
	"testing"

	"garner/api"
	"garner/plan"
)

// The model: the chapter's words, in numbers that have no end.

// tierOf answers the greatest t, from 0 on, with 4^t at most n; 0 for n below 1.
func tierOf(n int) int {
	whole, power := big.NewInt(int64(n)), big.NewInt(4)
	t := 0
	for power.Cmp(whole) <= 0 {
		power.Mul(power, big.NewInt(4))
		t++
	}
	return t
}

// boundOf answers the bound of n records.
func boundOf(n int) int {
	if n < 1 {
		return 0
	}
	return 3 * (1 + tierOf(n))
}

// together answers how many records the segments at the places have; a Count below 0 counts as 0.
func together(segs []api.Seg, places []int) *big.Int {
	sum := new(big.Int)
	for _, i := range places {
		if segs[i].Count > 0 {
			sum.Add(sum, big.NewInt(int64(segs[i].Count)))
		}
	}
	return sum
}

// mergeOf answers the places that Merge names.
func mergeOf(segs []api.Seg) []int {
	byTier := map[int][]int{}
	greatest := 0
	for i, s := range segs {
		t := tierOf(s.Count)
		byTier[t] = append(byTier[t], i)
		greatest = max(greatest, t)
	}
	for t := 0; t <= greatest; t++ {
		if len(byTier[t]) < 4 {
			continue
		}
		if four := byTier[t][:4]; together(segs, four).Cmp(big.NewInt(65536)) <= 0 {
			return four
		}
	}
	return nil
}

// goneOf answers the places that Gone names.
func goneOf(segs []api.Seg, mark int64) []int {
	var l []int
	for i, s := range segs {
		if big.NewInt(s.Max).Cmp(big.NewInt(mark)) < 0 {
			l = append(l, i)
		}
	}
	return l
}

// counts answers segments of those Counts. Their other fields say nothing of what Merge asks.
func counts(ns ...int) []api.Seg {
	var l []api.Seg
	for i, n := range ns {
		l = append(l, api.Seg{Id: i + 1, Count: n, Min: int64(-i), Max: int64(i)})
	}
	return l
}

// maxima answers segments of those Max. Their other fields say nothing of what Gone asks.
func maxima(ns ...int64) []api.Seg {
	var l []api.Seg
	for i, n := range ns {
		l = append(l, api.Seg{Id: i + 1, Count: 1, Min: n - int64(i%3), Max: n})
	}
	return l
}

// times answers n times the same Count.
func times(n, count int) []int {
	return slices.Repeat([]int{count}, n)
}

// countsOf answers the Counts of segs; of many the first ones.
func countsOf(segs []api.Seg) []int {
	var l []int
	for _, s := range segs[:min(len(segs), 20)] {
		l = append(l, s.Count)
	}
	return l
}

// checkNumber holds Tier(n) and Bound(n) against the model.
func checkNumber(t *testing.T, n int) {
	t.Helper()
	if got, want := plan.Tier(n), tierOf(n); got != want {
		t.Errorf("Tier(%d): %d, not %d", n, got, want)
	}
	if got, want := plan.Bound(n), boundOf(n); got != want {
		t.Errorf("Bound(%d): %d, not %d", n, got, want)
	}
}

// checkMerge holds Merge(segs) against the model, and answers what it answers.
func checkMerge(t *testing.T, segs []api.Seg) []int {
	t.Helper()
	got, want := plan.Merge(segs), mergeOf(segs)
	if !slices.Equal(got, want) {
		t.Errorf("Merge of %d segments of the Counts %d: %d, not %d", len(segs), countsOf(segs), got, want)
	}
	return got
}

// checkPlaces holds Merge of segments of those Counts against the model and against what is wanted.
func checkPlaces(t *testing.T, ns []int, want ...int) {
	t.Helper()
	if got := checkMerge(t, counts(ns...)); !slices.Equal(got, want) {
		t.Errorf("Merge of the Counts %d: %d, not %d", ns, got, want)
	}
}

// checkGone holds Gone(segs, mark) against the model and against what is wanted.
func checkGone(t *testing.T, segs []api.Seg, mark int64, want ...int) {
	t.Helper()
	got := plan.Gone(segs, mark)
	if !slices.Equal(got, want) {
		t.Errorf("Gone of %+v and %d: %d, not %d", segs, mark, got, want)
	}
	if l := goneOf(segs, mark); !slices.Equal(got, l) {
		t.Errorf("Gone of %+v and %d: %d, not %d", segs, mark, got, l)
	}
}

// P16.1: tier and bound.

func TestTierOfKnownNumbers(t *testing.T) {
	for _, r := range []struct{ n, tier, bound int }{
		{math.MinInt, 0, 0}, {-65536, 0, 0}, {-4, 0, 0}, {-1, 0, 0}, {0, 0, 0},
		{1, 0, 3}, {2, 0, 3}, {3, 0, 3}, {4, 1, 6}, {5, 1, 6}, {8, 1, 6}, {15, 1, 6}, {16, 2, 9}, {32, 2, 9}, {63, 2, 9},
		{64, 3, 12}, {100, 3, 12}, {255, 3, 12}, {256, 4, 15}, {1023, 4, 15}, {1024, 5, 18}, {4096, 6, 21},
		{16383, 6, 21}, {16384, 7, 24}, {65535, 7, 24}, {65536, 8, 27}, {65537, 8, 27},
		{1 << 31, 15, 48}, {1 << 32, 16, 51}, {1<<62 - 1, 30, 93}, {1 << 62, 31, 96}, {math.MaxInt, 31, 96},
	} {
		if got := plan.Tier(r.n); got != r.tier {
			t.Errorf("Tier(%d): %d, not %d", r.n, got, r.tier)
		}
		if got := plan.Bound(r.n); got != r.bound {
			t.Errorf("Bound(%d): %d, not %d", r.n, got, r.bound)
		}
	}
}

func TestTierAtEachPower(t *testing.T) {
	for b := range 63 {
		for d := -3; d <= 3; d++ {
			checkNumber(t, 1<<b+d)
			checkNumber(t, -(1<<b + d))
		}
	}
	for d := range 4 {
		checkNumber(t, math.MaxInt-d)
		checkNumber(t, math.MinInt+d)
	}
}

func TestTierOfManyNumbers(t *testing.T) {
	for n := -300; n <= 70000; n++ {
		checkNumber(t, n)
	}
	r := rand.New(rand.NewSource(1))
	for range 50000 {
		checkNumber(t, int(r.Uint64()>>r.Intn(64)))
	}
}

// P16.2: what is merged.

func TestMergeOfFew(t *testing.T) {
	checkPlaces(t, nil)
	checkPlaces(t, []int{1})
	checkPlaces(t, times(3, 1))
	checkPlaces(t, times(3, 0))
	checkPlaces(t, []int{1, 4, 16, 64, 256, 1024, 4096, 16384})
	checkPlaces(t, []int{1, 1, 1, 4, 4, 4, 16, 16, 16})
	if l := plan.Merge([]api.Seg{}); len(l) > 0 {
		t.Errorf("Merge of none: %d", l)
	}
}

func TestMergeOfFour(t *testing.T) {
	for power := 1; power <= 16384; power *= 4 {
		checkPlaces(t, times(4, power), 0, 1, 2, 3)
		checkPlaces(t, times(4, power*4-1), firstFour(4*(power*4-1))...)
		checkPlaces(t, []int{power, power, power, power * 4})
		if power > 1 {
			checkPlaces(t, []int{power, power - 1, power, power})
		}
	}
}

// firstFour answers the places of the first four, if their records fit; else none.
func firstFour(records int) []int {
	if records > 65536 {
		return nil
	}
	return []int{0, 1, 2, 3}
}

func TestMergeOfTheFirstFour(t *testing.T) {
	checkPlaces(t, times(5, 1), 0, 1, 2, 3)
	checkPlaces(t, times(100, 5), 0, 1, 2, 3)
	checkPlaces(t, []int{16, 1, 64, 2, 3, 4, 1, 2}, 1, 3, 4, 6)
	checkPlaces(t, append(times(1020, 4), 1, 1, 1, 1), 1020, 1021, 1022, 1023)
	checkPlaces(t, append(times(3, 1), append(times(3000, 70000), 1)...), 0, 1, 2, 3003)
}

func TestMergeOfTheLeastTier(t *testing.T) {
	checkPlaces(t, []int{4, 4, 4, 4, 1, 1, 1, 1}, 4, 5, 6, 7)
	checkPlaces(t, []int{4, 4, 4, 4, 1, 1, 1}, 0, 1, 2, 3)
	checkPlaces(t, []int{16, 4, 16, 4, 16, 4, 16, 4}, 1, 3, 5, 7)
	checkPlaces(t, []int{16384, 16384, 1024, 16384, 16384, 1024, 1024, 1024}, 2, 5, 6, 7)
}

func TestMergeAtMostFrame(t *testing.T) {
	checkPlaces(t, times(4, 16384), 0, 1, 2, 3)
	for i := range 4 {
		ns := times(4, 16384)
		ns[i]++
		checkPlaces(t, ns)
		checkPlaces(t, append(ns, times(4, 16384)...)) // others of the tier would fit, but aren't the first
		ns[i] -= 2
		checkPlaces(t, ns) // three of the tier, together with one of the tier below no more than fits
	}
	checkPlaces(t, times(4, 65535))
	checkPlaces(t, times(4, 65536))
	checkPlaces(t, append(times(4, 20000), 4, 4, 4, 4), 4, 5, 6, 7)
	checkPlaces(t, append(times(4, 20000), 4, 4, 4))
}

func TestMergeOfSumsThatWrapRound(t *testing.T) {
	for b := 16; b < 63; b++ {
		checkPlaces(t, times(4, 1<<b))
		checkPlaces(t, times(4, 1<<b+1))
		checkPlaces(t, []int{1 << b, 1 << b, 1 << b, 1<<b + 1})
	}
	checkPlaces(t, times(4, math.MaxInt))
	checkPlaces(t, append(times(4, 1<<62), 3, 3, 3, 3), 4, 5, 6, 7)
	checkPlaces(t, []int{math.MaxInt, math.MaxInt, 1 << 62, 1<<62 + 2})
}

func TestMergeOfCountsBelowOne(t *testing.T) {
	checkPlaces(t, times(4, 0), 0, 1, 2, 3)
	checkPlaces(t, times(4, -1), 0, 1, 2, 3)
	checkPlaces(t, times(4, -65536), 0, 1, 2, 3)
	checkPlaces(t, times(4, math.MinInt), 0, 1, 2, 3)
	checkPlaces(t, []int{3, -1, 0, 1}, 0, 1, 2, 3)
	checkPlaces(t, []int{0, 4, 4, 4, -20000})
	checkPlaces(t, []int{20000, -20000, 20000, 20000, 20000})
	low := []int{math.MinInt, math.MinInt + 1, -1, 0, 1, 3}
	for _, a := range low { // sums of these wrap round both ways
		for _, b := range low {
			for _, c := range low {
				for _, d := range low {
					checkPlaces(t, []int{a, b, c, d}, 0, 1, 2, 3)
				}
			}
		}
	}
}

func TestMergeOfAllShortRows(t *testing.T) {
	some := []int{0, 1, 3, 4, 16383, 16384, 16385}
	for length := range 7 {
		rows := 1
		for range length {
			rows *= len(some)
		}
		for row := range rows {
			ns := make([]int, length)
			for i := range ns {
				ns[i] = some[row%len(some)]
				row /= len(some)
			}
			checkMerge(t, counts(ns...))
		}
	}
}

func TestMergeOfTwoTiers(t *testing.T) {
	for row := range 1 << 12 {
		ns := make([]int, 12)
		for i := range ns {
			ns[i] = 5 - 3*(row>>i&1)
		}
		checkMerge(t, counts(ns...))
	}
}

// noisy answers a Count by chance, of any size or of the sizes that stores have.
func noisy(r *rand.Rand) int {
	switch r.Intn(8) {
	case 0:
		return int(r.Uint64() >> r.Intn(64))
	case 1:
		return 16383 + r.Intn(3)
	case 2:
		return -r.Intn(3)
	}
	return 1<<(2*r.Intn(9)) + r.Intn(4) - 1
}

func TestMergeByChance(t *testing.T) {
	r := rand.New(rand.NewSource(2))
	for range 30000 {
		segs := make([]api.Seg, r.Intn(30))
		for i := range segs {
			segs[i] = api.Seg{Id: int(r.Uint64()), Count: noisy(r), Min: int64(r.Uint64()), Max: int64(r.Uint64())}
		}
		checkMerge(t, segs)
	}
}

func TestMergeAsksForCountsAlone(t *testing.T) {
	r := rand.New(rand.NewSource(3))
	for _, ns := range [][]int{times(4, 1), {1, 16, 2, 3, 1, 20}, {1, 2, 3}, {5, 5, 1, 5, 5, 1, 1}, times(4, 16385)} {
		want := plan.Merge(counts(ns...))
		for range 200 {
			segs := counts(ns...)
			for i := range segs {
				segs[i].Id, segs[i].Min, segs[i].Max = r.Intn(3)-1, int64(r.Uint64()), int64(r.Uint64())
			}
			if got := plan.Merge(segs); !slices.Equal(got, want) {
				t.Fatalf("Merge of %+v: %d, not %d", segs, got, want)
			}
		}
	}
}

// P16.3: what is gone.

func TestGoneOfKnown(t *testing.T) {
	checkGone(t, nil, 0)
	checkGone(t, nil, math.MaxInt64)
	checkGone(t, []api.Seg{}, 5)
	checkGone(t, maxima(5, 9, 3), 6, 0, 2)
	checkGone(t, maxima(5, 9, 3), 3)
	checkGone(t, maxima(5, 9, 3), 4, 2)
	checkGone(t, maxima(5, 9, 3), 5, 2)
	checkGone(t, maxima(5, 9, 3), 9, 0, 2)
	checkGone(t, maxima(5, 9, 3), 10, 0, 1, 2)
	checkGone(t, maxima(-5, 0, 5), 0, 0)
	checkGone(t, maxima(-5, 0, 5), 1, 0, 1)
	checkGone(t, maxima(7, 7, 7), 8, 0, 1, 2)
	checkGone(t, maxima(7, 7, 7), 7)
}

func TestGoneAtTheEnds(t *testing.T) {
	ends := []int64{math.MinInt64, math.MinInt64 + 1, -1, 0, 1, math.MaxInt64 - 1, math.MaxInt64}
	segs := maxima(ends...)
	for i, mark := range ends {
		var want []int
		for j := range i {
			want = append(want, j)
		}
		checkGone(t, segs, mark, want...)
	}
}

func TestGoneAsksForMaxAlone(t *testing.T) {
	for _, mark := range []int64{-9, 5, 6, 9} {
		var want []int
		if mark > 5 {
			want = []int{0, 1, 2, 3}
		}
		checkGone(t, []api.Seg{
			{Id: -1, Count: -5, Min: 100, Max: 5},
			{Id: math.MaxInt, Count: 0, Min: math.MinInt64, Max: 5},
			{Id: 7, Count: math.MaxInt, Min: math.MaxInt64, Max: 5},
			{Id: 7, Count: 1, Min: 5, Max: 5},
		}, mark, want...)
	}
}

func TestGoneByChance(t *testing.T) {
	r := rand.New(rand.NewSource(4))
	for range 20000 {
		segs := make([]api.Seg, r.Intn(20))
		shift := r.Intn(64)
		for i := range segs {
			segs[i] = api.Seg{Id: r.Intn(9), Count: noisy(r), Min: int64(r.Uint64()), Max: int64(r.Uint64()) >> shift}
		}
		mark := int64(r.Uint64()) >> shift
		checkGone(t, segs, mark, goneOf(segs, mark)...)
	}
}

// Many more segments than a manifest has.
func TestManySegments(t *testing.T) {
	n := 100000
	segs := make([]api.Seg, n)
	var even []int
	for i := range segs {
		segs[i] = api.Seg{Id: i, Count: 1 << 40, Max: int64(i % 2)}
		if i%2 == 0 {
			even = append(even, i)
		}
	}
	if l := plan.Gone(segs, 1); !slices.Equal(l, even) {
		t.Errorf("Gone of %d segments names %d, not %d", n, len(l), len(even))
	}
	checkMerge(t, segs)
	for _, i := range []int{7, 5000, 50000, n - 1} {
		segs[i].Count = 2
	}
	if l := checkMerge(t, segs); !slices.Equal(l, []int{7, 5000, 50000, n - 1}) {
		t.Errorf("Merge: %d", l)
	}
}

// P16.4: merging comes to an end.

// whole answers how many records the merged segment has: all of the four's.
func whole(sum int) int { return sum }

// sumOf answers how many records segs have, which are few.
func sumOf(segs []api.Seg) int {
	n := 0
	for _, s := range segs {
		n += s.Count
	}
	return n
}

// checkTurns merges as long as Merge names four, and holds what comes of it against P16.4.
func checkTurns(t *testing.T, segs []api.Seg, left func(sum int) int) {
	t.Helper()
	first, at, n := countsOf(segs), len(segs), sumOf(segs)
	turns := 0
	for {
		four := plan.Merge(segs)
		if len(four) == 0 {
			break
		}
		if turns++; turns > at {
			t.Fatalf("Counts %d: no end", first)
		}
		segs = turn(t, segs, four, left)
		if len(segs) != at-3*turns {
			t.Fatalf("Counts %d: %d segments behind %d turns", first, len(segs), turns)
		}
	}
	if now := sumOf(segs); len(segs) > plan.Bound(now) || len(segs) > plan.Bound(n) {
		t.Errorf("Counts %d: %d segments of %d records at the end", first, len(segs), now)
	}
}

// turn answers segs without the four and with one that takes their place at the end.
func turn(t *testing.T, segs []api.Seg, four []int, left func(sum int) int) []api.Seg {
	t.Helper()
	var rest []api.Seg
	sum, from := 0, 0
	for _, i := range four {
		if i < from || i >= len(segs) {
			t.Fatalf("Merge of %d segments: %d", len(segs), four)
		}
		rest = append(rest, segs[from:i]...)
		sum += max(segs[i].Count, 0)
		from = i + 1
	}
	rest = append(rest, segs[from:]...)
	if len(rest)+4 != len(segs) || sum > 65536 {
		t.Fatalf("Merge of %d segments: %d of %d records", len(segs), four, sum)
	}
	return append(rest, api.Seg{Count: left(sum)})
}

func TestTurnsOfAllSmallSums(t *testing.T) {
	for n := range 15 { // each way to write n + 1 as a row of numbers from 1 on
		for cuts := range 1 << n {
			ns := []int{1}
			for i := range n {
				if cuts>>i&1 == 1 {
					ns = append(ns, 1)
				} else {
					ns[len(ns)-1]++
				}
			}
			checkTurns(t, counts(ns...), whole)
			checkTurns(t, counts(ns...), func(sum int) int { return 1 })
		}
	}
}

func TestTurnsOfLikeSegments(t *testing.T) {
	for n := range 300 {
		checkTurns(t, counts(times(n, 1)...), whole)
		checkTurns(t, counts(times(n, 200)...), whole)
	}
	checkTurns(t, counts(times(8192, 1)...), whole)
	checkTurns(t, counts(times(4096, 16)...), whole)
	checkTurns(t, counts(times(4, 16384)...), whole)
	checkTurns(t, counts(65536), whole)
	segs := counts(times(64, 1024)...)
	for four := plan.Merge(segs); len(four) > 0; four = plan.Merge(segs) {
		segs = turn(t, segs, four, whole)
	}
	if len(segs) != 1 || segs[0].Count != 65536 {
		t.Errorf("64 segments of 1024 records end as %d", countsOf(segs))
	}
}

func TestTurnsByChance(t *testing.T) {
	r := rand.New(rand.NewSource(5))
	less := func(sum int) int { return 1 + r.Intn(sum) }
	most := func(sum int) int { return max(1, sum-r.Intn(2)) }
	for range 500 {
		var ns []int
		for room, scale := 65536, r.Intn(17); room > 0 && len(ns) < 500; {
			n := 1 + r.Intn(min(room, 1<<scale))
			ns = append(ns, n)
			room -= n
		}
		segs := counts(ns...)
		checkTurns(t, segs, whole)
		checkTurns(t, segs, less)
		checkTurns(t, segs, most)
	}
}

// Each flush puts a segment at the end; behind each the merges come to an end.
func TestTurnsBetweenFlushes(t *testing.T) {
	r := rand.New(rand.NewSource(6))
	var segs []api.Seg
	for n := 0; ; {
		count := 1 + r.Intn(80)
		if n += count; n > 65536 {
			return
		}
		segs = append(segs, api.Seg{Count: count})
		for four := plan.Merge(segs); len(four) > 0; four = plan.Merge(segs) {
			segs = turn(t, segs, four, whole)
		}
		if len(segs) > plan.Bound(n) || sumOf(segs) != n {
			t.Fatalf("%d records: segments of %d", n, countsOf(segs))
		}
	}
}

// Where the Counts are of any kind, the turns come to an end too: each takes three away.
func TestTurnsOfAnyCounts(t *testing.T) {
	r := rand.New(rand.NewSource(7))
	for range 2000 {
		segs := make([]api.Seg, r.Intn(60))
		for i := range segs {
			segs[i].Count = noisy(r)
		}
		for at := len(segs); ; at -= 3 {
			four := plan.Merge(segs)
			if len(four) == 0 {
				break
			}
			if segs = turn(t, segs, four, func(int) int { return noisy(r) }); len(segs) != at-3 {
				t.Fatalf("%d segments of %d behind a turn", len(segs), at)
			}
		}
	}
}

// P16.5: memory.

// roomy answers segments with spare room behind them that holds something too.
func roomy() []api.Seg {
	l := counts(1, 16, 2, 3, 1, 20, 2, 3, 1, 1)
	return l[:6]
}

func TestHandedInStays(t *testing.T) {
	l, kept := roomy(), roomy()
	for _, mark := range []int64{0, 3, math.MaxInt64} {
		plan.Merge(l)
		plan.Gone(l, mark)
		if !slices.Equal(l[:10], kept[:10]) || len(l) != 6 {
			t.Fatalf("it is %+v now", l[:10])
		}
	}
}

func TestSpareRoomCountsForNothing(t *testing.T) {
	l := counts(1, 2, 3, 1, 1)[:3]
	if got := plan.Merge(l); len(got) > 0 {
		t.Errorf("Merge: %d", got)
	}
	if got := plan.Gone(l, 100); !slices.Equal(got, []int{0, 1, 2}) {
		t.Errorf("Gone: %d", got)
	}
}

func TestAnsweredIsNew(t *testing.T) {
	l := roomy()
	for range 3 {
		merged, gone := plan.Merge(l), plan.Gone(l, 3)
		again, goneAgain := plan.Merge(l), plan.Gone(l, 3)
		for _, places := range [][]int{merged, gone} {
			for i := range places[:cap(places)] {
				places[:cap(places)][i] = -7
			}
		}
		if !slices.Equal(again, []int{0, 2, 3, 4}) || !slices.Equal(goneAgain, []int{0, 1, 2}) {
			t.Fatalf("Merge: %d, Gone: %d", again, goneAgain)
		}
	}
}

func TestHandedInIsNotKept(t *testing.T) {
	l := counts(1, 1, 1, 1)
	merged, gone := plan.Merge(l), plan.Gone(l, 9)
	for i := range l {
		l[i] = api.Seg{Count: 100000, Max: 9}
	}
	if want := []int{0, 1, 2, 3}; !slices.Equal(merged, want) || !slices.Equal(gone, want) {
		t.Errorf("Merge: %d, Gone: %d", merged, gone)
	}
	if now, then := plan.Merge(l), plan.Gone(l, 9); len(now) > 0 || len(then) > 0 {
		t.Errorf("Merge: %d, Gone: %d", now, then)
	}
}

func TestManyAtOnce(t *testing.T) {
	l := roomy()
	var all sync.WaitGroup
	for range 8 {
		all.Go(func() {
			for range 500 {
				if !slices.Equal(plan.Merge(l), []int{0, 2, 3, 4}) || !slices.Equal(plan.Gone(l, 2), []int{0, 1}) {
					t.Error("another answer")
					return
				}
			}
		})
	}
	all.Wait()
}

func TestLimitsAreThoseOfTheDocument(t *testing.T) {
	if api.Fan != 4 || api.MaxFrame != 65536 {
		t.Error("other limits")
	}
}

func TestExamples(t *testing.T) {
	if plan.Tier(1) != 0 || plan.Tier(3) != 0 || plan.Tier(4) != 1 || plan.Tier(16) != 2 {
		t.Error("Tier")
	}
	if plan.Bound(0) != 0 || plan.Bound(3) != 3 || plan.Bound(100) != 12 {
		t.Error("Bound")
	}
	checkPlaces(t, []int{1, 16, 2, 3, 1, 20}, 0, 2, 3, 4)
	checkPlaces(t, []int{1, 2, 3})
	checkGone(t, maxima(5, 9, 3), 6, 0, 2)
}
