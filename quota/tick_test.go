package quota_test

import (
	"math/big"
	"math/rand"
	"slices"
	"testing"

	"deponent/quota"
)

// wantedTick reckons with numbers of any length.
func wantedTick(b quota.Bucket, times uint64) quota.Bucket {
	gained := new(big.Int).Mul(new(big.Int).SetUint64(times), big.NewInt(int64(b.Rate)))
	tokens := gained.Add(gained, big.NewInt(int64(b.Tokens)))
	if burst := big.NewInt(int64(b.Burst)); tokens.Cmp(burst) > 0 {
		tokens = burst
	}
	b.Tokens = uint32(tokens.Uint64())
	return b
}

func wantTick(t *testing.T, b quota.Bucket, times uint64) {
	t.Helper()
	was := b
	if got := quota.Tick(b, times); got != wantedTick(was, times) || b != was {
		t.Errorf("Tick(%v, %d): %v", was, times, got)
	}
}

// filling answers how many ticks just fill b, with one fewer and one more; of a bucket that no tick fills, none.
func filling(b quota.Bucket) []uint64 {
	if b.Rate == 0 || b.Tokens >= b.Burst {
		return nil
	}
	room, rate := uint64(b.Burst-b.Tokens), uint64(b.Rate)
	times := (room + rate - 1) / rate
	return []uint64{times - 1, times, times + 1}
}

// TestTick: P14.1, P14.2, buckets at all ends with 0, 1, few and many ticks, and with those that just fill them.
func TestTick(t *testing.T) {
	for _, b := range buckets() {
		for _, times := range append(filling(b), long()...) {
			wantTick(t, b, times)
		}
	}
}

// TestTickOneByOne: P14.1, small buckets, one tick behind the other: each adds Rate, and what is above Burst is lost.
func TestTickOneByOne(t *testing.T) {
	for rate := range 7 {
		for burst := range 12 {
			for tokens := range 15 {
				b := quota.Bucket{Rate: uint32(rate), Burst: uint32(burst), Tokens: uint32(tokens)}
				for times, left := 0, min(tokens, burst); times < 15; times, left = times+1, min(left+rate, burst) {
					want := quota.Bucket{Rate: uint32(rate), Burst: uint32(burst), Tokens: uint32(left)}
					if got := quota.Tick(b, uint64(times)); got != want {
						t.Fatalf("Tick(%v, %d): %v, not %v", b, times, got, want)
					}
				}
			}
		}
	}
}

// TestTickJustFills: P14.1, those ticks that just fill a bucket do, and one fewer does not.
func TestTickJustFills(t *testing.T) {
	some := 0
	for _, b := range buckets() {
		f := filling(b)
		if f == nil {
			continue
		}
		some++
		if got := quota.Tick(b, f[0]).Tokens; got >= b.Burst {
			t.Errorf("Tick(%v, %d): %d", b, f[0], got)
		}
		for _, times := range append(f[1:], 1<<32, most64) {
			if got := quota.Tick(b, times).Tokens; got != b.Burst {
				t.Errorf("Tick(%v, %d): %d", b, times, got)
			}
		}
	}
	if some < 1000 {
		t.Errorf("%d buckets alone are filled", some)
	}
}

// TestTickWrittenOut: P14.1, P14.2, some ticks, written out.
func TestTickWrittenOut(t *testing.T) {
	for _, x := range []struct {
		b     quota.Bucket
		times uint64
		want  uint32
	}{
		{quota.Bucket{}, 0, 0}, {quota.Bucket{}, most64, 0}, {quota.Bucket{Rate: 1}, 1, 0},
		{quota.Bucket{Rate: 2, Burst: 5, Tokens: 1}, 0, 1}, {quota.Bucket{Rate: 2, Burst: 5, Tokens: 1}, 1, 3},
		{quota.Bucket{Rate: 2, Burst: 5, Tokens: 1}, 2, 5}, {quota.Bucket{Rate: 2, Burst: 5, Tokens: 1}, 3, 5},
		{quota.Bucket{Rate: 2, Burst: 5, Tokens: 1}, 1 << 32, 5}, {quota.Bucket{Rate: 2, Burst: 5, Tokens: 1}, 1 << 63, 5},
		{quota.Bucket{Rate: 2, Burst: 5, Tokens: 1}, most64, 5}, {quota.Bucket{Rate: 2, Burst: 6, Tokens: 1}, 2, 5},
		{quota.Bucket{Burst: 9, Tokens: 1}, 99, 1}, {quota.Bucket{Burst: 9, Tokens: 0}, most64, 0}, {quota.Bucket{Burst: 9, Tokens: 9}, most64, 9},
		{quota.Bucket{Burst: 3, Tokens: 9}, 0, 3}, {quota.Bucket{Burst: 3, Tokens: 9}, 7, 3}, {quota.Bucket{Rate: 4, Burst: 3, Tokens: 9}, 0, 3},
		{quota.Bucket{Rate: 4, Burst: 3, Tokens: 4}, 1, 3}, {quota.Bucket{Burst: 0, Tokens: most32}, 0, 0}, {quota.Bucket{Rate: most32, Tokens: most32}, most64, 0},
		{quota.Bucket{Rate: most32, Burst: most32, Tokens: most32}, 0, most32}, {quota.Bucket{Rate: most32, Burst: most32, Tokens: most32}, most64, most32},
		{quota.Bucket{Rate: most32, Burst: most32, Tokens: 0}, 1, most32}, {quota.Bucket{Rate: most32, Burst: most32, Tokens: 1}, 1, most32},
		{quota.Bucket{Rate: 1, Burst: most32, Tokens: 0}, most32 - 1, most32 - 1}, {quota.Bucket{Rate: 1, Burst: most32, Tokens: 0}, most32, most32},
		{quota.Bucket{Rate: 1 << 20, Burst: 1 << 20}, 1 << 44, 1 << 20}, {quota.Bucket{Rate: 1 << 31, Burst: most32}, 1, 1 << 31}, {quota.Bucket{Rate: 1 << 31, Burst: most32}, 2, most32},
	} {
		want := quota.Bucket{Rate: x.b.Rate, Burst: x.b.Burst, Tokens: x.want}
		if got := quota.Tick(x.b, x.times); got != want {
			t.Errorf("Tick(%v, %d): %v, not %v", x.b, x.times, got, want)
		}
	}
}

// TestRateOfNone: P14.1, without a Rate no number of ticks adds anything.
func TestRateOfNone(t *testing.T) {
	for _, b := range buckets() {
		if b.Rate != 0 {
			continue
		}
		want := quota.Bucket{Burst: b.Burst, Tokens: min(b.Tokens, b.Burst)}
		for _, times := range long() {
			if got := quota.Tick(b, times); got != want {
				t.Errorf("Tick(%v, %d): %v", b, times, got)
			}
		}
	}
}

// TestTicksAddUp: P14.2, ticking twice is ticking the sum of the times; past 2^64 - 1, as Sum has it, too.
func TestTicksAddUp(t *testing.T) {
	all := buckets()
	if len(all) < 10000 {
		t.Fatalf("%d buckets", len(all))
	}
	for _, b := range all {
		for _, x := range long() {
			once := quota.Tick(b, x)
			for _, y := range long() {
				if got, want := quota.Tick(once, y), quota.Tick(b, quota.Sum(x, y)); got != want {
					t.Fatalf("%v ticked %d and %d: %v, not %v", b, x, y, got, want)
				}
			}
		}
	}
}

// TestSmallTicksAddUp: P14.2, where the sum of two ticks has all numbers of tokens about Burst.
func TestSmallTicksAddUp(t *testing.T) {
	rnd := rand.New(rand.NewSource(141))
	for range 100000 {
		b := quota.Bucket{Rate: uint32(rnd.Intn(9)), Burst: uint32(rnd.Intn(90)), Tokens: uint32(rnd.Intn(100))}
		x, y, z := uint64(rnd.Intn(12)), uint64(rnd.Intn(12)), rnd.Uint64()
		if quota.Tick(quota.Tick(b, x), y) != quota.Tick(b, x+y) {
			t.Fatalf("%v ticked %d and %d", b, x, y)
		}
		for _, both := range [][2]uint64{{x, z}, {z, y}, {z, z}} {
			if quota.Tick(quota.Tick(b, both[0]), both[1]) != quota.Tick(b, quota.Sum(both[0], both[1])) {
				t.Fatalf("%v ticked %d and %d", b, both[0], both[1])
			}
		}
	}
}

// TestTicksNeverTake: P14.2, more ticks leave no fewer tokens, and never more than Burst.
func TestTicksNeverTake(t *testing.T) {
	for _, b := range buckets() {
		left := min(b.Tokens, b.Burst)
		for _, times := range slices.Sorted(slices.Values(long())) {
			got := quota.Tick(b, times).Tokens
			if got < left || got > b.Burst {
				t.Fatalf("Tick(%v, %d): %d, though fewer ticks leave %d", b, times, got, left)
			}
			left = got
		}
	}
}
