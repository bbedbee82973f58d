package quota_test

import (
	"math"
	"math/big"
	"math/bits"
	"slices"
	"testing"

	"deponent/api"
	"deponent/quota"
)

const (
	most32 = math.MaxUint32
	most64 = math.MaxUint64
)

// Whoever has a bucket sees three numbers and nothing else, and calls take and answer it as it is, not a pointer to it.
var (
	_ struct{ Rate, Burst, Tokens uint32 }               = quota.Bucket{}
	_ func(rate, burst uint32) (quota.Bucket, api.Errno) = quota.New
	_ func(quota.Bucket, uint64) quota.Bucket            = quota.Tick
	_ func(quota.Bucket, uint32) (quota.Bucket, bool)    = quota.Take
)

// around answers numbers at the ends of uint32, about MaxRate and about powers of two.
func around() []uint32 {
	l := []uint32{0, 1, 2, 3, 5, 7, 9, 100, 1<<16 - 1, 1 << 16, 1<<16 + 1}
	l = append(l, api.MaxRate-2, api.MaxRate-1, api.MaxRate, api.MaxRate+1, api.MaxRate+2)
	return append(l, 1<<31-1, 1<<31, 1<<31+1, most32-2, most32-1, most32)
}

// buckets answers a bucket of each three numbers of around.
func buckets() []quota.Bucket {
	var l []quota.Bucket
	for _, rate := range around() {
		for _, burst := range around() {
			for _, tokens := range around() {
				l = append(l, quota.Bucket{Rate: rate, Burst: burst, Tokens: tokens})
			}
		}
	}
	return l
}

// TestRuns: the chapter's table.
func TestRuns(t *testing.T) {
	b, why := quota.New(2, 5)
	if why != api.OK || b != (quota.Bucket{Rate: 2, Burst: 5, Tokens: 5}) {
		t.Fatalf("New(2, 5): %v, %d", b, why)
	}
	b, ok := quota.Take(b, 4)
	if !ok || b != (quota.Bucket{Rate: 2, Burst: 5, Tokens: 1}) {
		t.Fatalf("Take 4: %v, %v", b, ok)
	}
	b = quota.Tick(b, 1)
	if b != (quota.Bucket{Rate: 2, Burst: 5, Tokens: 3}) {
		t.Fatalf("Tick 1: %v", b)
	}
	if full := quota.Tick(b, most64); full != (quota.Bucket{Rate: 2, Burst: 5, Tokens: 5}) {
		t.Errorf("Tick 2^64 - 1: %v", full)
	}
	for _, n := range []uint32{4, 5, 6, most32} {
		if c, ok := quota.Take(b, n); ok || c != b {
			t.Errorf("Take %d of 3: %v, %v", n, c, ok)
		}
	}
	got := []uint32{quota.Cost(api.Add, 63), quota.Cost(api.Add, 64), quota.Cost(api.Look, 999)}
	if !slices.Equal(got, []uint32{1, 2, 1}) {
		t.Errorf("Cost: %v", got)
	}
}

// TestExamples: the chapter's examples.
func TestExamples(t *testing.T) {
	b, why := quota.New(0, 5)
	b, ok := quota.Take(b, 5)
	if why != api.OK || !ok || quota.Tick(b, most64) != (quota.Bucket{Burst: 5}) {
		t.Errorf("Rate 0: %v, %d, %v, %v", b, why, ok, quota.Tick(b, most64))
	}
	if b, why := quota.New(api.MaxRate+1, 0); why != api.ErrArg || b != (quota.Bucket{}) {
		t.Errorf("New(MaxRate + 1, 0): %v, %d", b, why)
	}
	if got := quota.Sum(most64, 1); got != most64 {
		t.Errorf("Sum(2^64 - 1, 1): %d", got)
	}
}

// TestNew: P14.1, a full bucket up to MaxRate in both places; above it, in one of them or in both, ErrArg and nothing beside it.
func TestNew(t *testing.T) {
	if api.MaxRate != 1048576 {
		t.Fatalf("MaxRate: %d", api.MaxRate)
	}
	for _, rate := range around() {
		for _, burst := range around() {
			want, wantWhy := quota.Bucket{Rate: rate, Burst: burst, Tokens: burst}, api.OK
			if rate > 1048576 || burst > 1048576 {
				want, wantWhy = quota.Bucket{}, api.ErrArg
			}
			if got, why := quota.New(rate, burst); got != want || why != wantWhy {
				t.Errorf("New(%d, %d): %v, %d", rate, burst, got, why)
			}
		}
	}
}

// TestNewWrittenOut: P14.1, some of these, written out.
func TestNewWrittenOut(t *testing.T) {
	for _, x := range []struct {
		rate, burst uint32
		want        quota.Bucket
		why         api.Errno
	}{
		{0, 0, quota.Bucket{}, api.OK},
		{1, 0, quota.Bucket{Rate: 1}, api.OK},
		{0, 1, quota.Bucket{Burst: 1, Tokens: 1}, api.OK},
		{7, 3, quota.Bucket{Rate: 7, Burst: 3, Tokens: 3}, api.OK},
		{1048576, 1048575, quota.Bucket{Rate: 1048576, Burst: 1048575, Tokens: 1048575}, api.OK},
		{1048575, 1048576, quota.Bucket{Rate: 1048575, Burst: 1048576, Tokens: 1048576}, api.OK},
		{1048576, 1048576, quota.Bucket{Rate: 1048576, Burst: 1048576, Tokens: 1048576}, api.OK},
		{1048577, 1048576, quota.Bucket{}, api.ErrArg},
		{1048576, 1048577, quota.Bucket{}, api.ErrArg},
		{1048577, 1048577, quota.Bucket{}, api.ErrArg},
		{0, 1048577, quota.Bucket{}, api.ErrArg},
		{1048577, 0, quota.Bucket{}, api.ErrArg},
		{0, most32, quota.Bucket{}, api.ErrArg},
		{most32, 0, quota.Bucket{}, api.ErrArg},
		{most32, most32, quota.Bucket{}, api.ErrArg},
	} {
		if got, why := quota.New(x.rate, x.burst); got != x.want || why != x.why {
			t.Errorf("New(%d, %d): %v, %d", x.rate, x.burst, got, why)
		}
	}
}

// wantedCost goes by the words of the chapter: bytes brought between 0 and 2^20, and 1 for each 64 of them.
func wantedCost(op, bytes int) uint32 {
	cost := uint32(1)
	for left := min(bytes, 1048576); op == api.Add && left >= 64; left -= 64 {
		cost++
	}
	return cost
}

// wideInts answers numbers of both signs at the ends of int and of its half, about multiples of 64 and about 2^20.
func wideInts() []int {
	const half = 1 << (bits.UintSize / 2)
	l := []int{0, 1, 2, 32, 62, 63, 64, 65, 126, 127, 128, 129, 191, 192, 255, 256, 257, 999, 65535, 65536}
	l = append(l, 1<<20-65, 1<<20-64, 1<<20-63, 1<<20-1, 1<<20, 1<<20+1, 1<<20+63, 1<<20+64, 1<<21)
	l = append(l, half/2-1, half/2, half/2+64, half-1, half, half+1, half+64, 64*half, math.MaxInt-64, math.MaxInt-1, math.MaxInt)
	for _, n := range slices.Clone(l) {
		l = append(l, -n)
	}
	return append(l, math.MinInt, math.MinInt+1, math.MinInt+63, math.MinInt+64, math.MinInt+65)
}

// TestCostOfAdd: P14.1, every number of bytes about those that count, and far ones.
func TestCostOfAdd(t *testing.T) {
	for bytes := -300; bytes <= 1200; bytes++ {
		if got := quota.Cost(api.Add, bytes); got != wantedCost(api.Add, bytes) {
			t.Errorf("Cost(Add, %d): %d", bytes, got)
		}
	}
	for _, bytes := range wideInts() {
		if got := quota.Cost(api.Add, bytes); got != wantedCost(api.Add, bytes) {
			t.Errorf("Cost(Add, %d): %d", bytes, got)
		}
	}
}

// TestCostWrittenOut: P14.1, some of these, written out.
func TestCostWrittenOut(t *testing.T) {
	for _, x := range []struct {
		bytes int
		want  uint32
	}{
		{math.MinInt, 1}, {math.MinInt + 1, 1}, {-1 << 20, 1}, {-128, 1}, {-65, 1}, {-64, 1}, {-63, 1}, {-5, 1}, {-1, 1},
		{0, 1}, {1, 1}, {63, 1}, {64, 2}, {65, 2}, {127, 2}, {128, 3}, {256, 5},
		{1<<20 - 1, 16384}, {1 << 20, 16385}, {1<<20 + 1, 16385}, {1<<20 + 64, 16385}, {math.MaxInt32, 16385}, {math.MaxInt - 1, 16385}, {math.MaxInt, 16385},
	} {
		if got := quota.Cost(api.Add, x.bytes); got != x.want {
			t.Errorf("Cost(Add, %d): %d, not %d", x.bytes, got, x.want)
		}
	}
}

// TestCostOfOthers: P14.1, of every other operation, and of numbers that are none, 1, however many bytes.
func TestCostOfOthers(t *testing.T) {
	others := []int{api.Look, api.Entry, api.Prove, api.Compare, api.Create, api.Change, api.Weigh, api.Rotate, api.Grant, api.Revoke, api.Limit}
	if len(others) != 11 || slices.Contains(others, api.Add) {
		t.Fatalf("others than Add: %v", others)
	}
	for op := -300; op <= 300; op++ {
		others = append(others, op)
	}
	for _, op := range wideInts() { // and those whose lowest byte is that of Add
		others = append(others, op, op&^0xff|api.Add)
	}
	others = slices.DeleteFunc(others, func(op int) bool { return op == api.Add })
	for _, op := range others {
		for _, bytes := range wideInts() {
			if got := quota.Cost(op, bytes); got != 1 {
				t.Errorf("Cost(%d, %d): %d", op, bytes, got)
			}
		}
	}
}

// wantedSum reckons with numbers of any length.
func wantedSum(a, b uint64) uint64 {
	sum := new(big.Int).Add(new(big.Int).SetUint64(a), new(big.Int).SetUint64(b))
	if !sum.IsUint64() {
		return most64
	}
	return sum.Uint64()
}

// long answers numbers at the ends of uint64 and of its half, and about powers of two.
func long() []uint64 {
	l := []uint64{0, 1, 2, 3, 9, 64, 1<<20 - 1, 1 << 20, 1<<20 + 1, 1<<32 - 2, 1<<32 - 1, 1 << 32, 1<<32 + 1}
	l = append(l, 1<<44-1, 1<<44, 1<<44+1, 1<<62, 1<<63-2, 1<<63-1, 1<<63, 1<<63+1, 1<<63+2)
	return append(l, most64-1<<32-1, most64-1<<32, most64-1<<32+1, most64-3, most64-2, most64-1, most64)
}

// TestSum: P14.1, P14.2, each two of these, and each number with those that just reach 2^64 - 1, fall short of it by one, or are one above it.
func TestSum(t *testing.T) {
	sum := func(a, b uint64) {
		t.Helper()
		if got := quota.Sum(a, b); got != wantedSum(a, b) {
			t.Errorf("Sum(%d, %d): %d", a, b, got)
		}
	}
	for _, a := range long() {
		for _, b := range long() {
			sum(a, b)
		}
		rest := most64 - a
		for _, b := range []uint64{max(rest, 1) - 1, rest, min(rest, most64-1) + 1} {
			sum(a, b)
			sum(b, a)
		}
	}
}

// TestSumWrittenOut: P14.1, some of these, written out.
func TestSumWrittenOut(t *testing.T) {
	for _, x := range []struct{ a, b, want uint64 }{
		{0, 0, 0}, {2, 3, 5}, {0, most64, most64}, {most64, 0, most64}, {1, most64, most64}, {most64, most64, most64},
		{most64 - 1, 0, most64 - 1}, {most64 - 1, 1, most64}, {most64 - 1, 2, most64}, {1, most64 - 2, most64 - 1},
		{1<<63 - 1, 1<<63 - 1, most64 - 1}, {1<<63 - 1, 1 << 63, most64}, {1 << 63, 1<<63 - 1, most64}, {1 << 63, 1 << 63, most64},
		{1<<32 - 1, 1, 1 << 32}, {1<<63 - 1, 1, 1 << 63},
	} {
		if got := quota.Sum(x.a, x.b); got != x.want {
			t.Errorf("Sum(%d, %d): %d, not %d", x.a, x.b, got, x.want)
		}
	}
}
