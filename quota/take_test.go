package quota_test

import (
	"math/rand"
	"testing"

	"deponent/api"
	"deponent/quota"
)

// wantTake holds Take against the words of the chapter, by numbers that can't wrap round.
func wantTake(t *testing.T, b quota.Bucket, n uint32) {
	t.Helper()
	was := b
	want, wantOk := b, int64(b.Tokens) >= int64(n)
	if wantOk {
		want.Tokens = uint32(int64(b.Tokens) - int64(n))
	}
	if got, ok := quota.Take(b, n); got != want || ok != wantOk || b != was {
		t.Errorf("Take(%v, %d): %v, %v", was, n, got, ok)
	}
}

// TestTake: P14.1, P14.2, of buckets at all ends nothing, one, all, one more, one fewer, and others; those that have more than their Burst too.
func TestTake(t *testing.T) {
	for _, b := range buckets() {
		few := []uint32{max(b.Tokens, 1) - 1, b.Tokens, min(b.Tokens, most32-1) + 1, b.Rate, b.Burst}
		for _, n := range append(few, around()...) {
			wantTake(t, b, n)
		}
	}
}

// TestTakeWrittenOut: P14.1, some of these, written out.
func TestTakeWrittenOut(t *testing.T) {
	for _, x := range []struct {
		tokens, n, want uint32
		ok              bool
	}{
		{0, 0, 0, true}, {5, 0, 5, true}, {5, 1, 4, true}, {5, 4, 1, true}, {5, 5, 0, true}, {5, 6, 5, false}, {5, most32, 5, false},
		{0, 1, 0, false}, {0, most32, 0, false}, {9, 9, 0, true}, {9, 10, 9, false},
		{most32, 0, most32, true}, {most32, 1, most32 - 1, true}, {most32, most32 - 1, 1, true}, {most32, most32, 0, true}, {most32 - 1, most32, most32 - 1, false},
		{1 << 31, 1<<31 - 1, 1, true}, {1 << 31, 1 << 31, 0, true}, {1 << 31, 1<<31 + 1, 1 << 31, false}, {1<<31 - 1, 1 << 31, 1<<31 - 1, false},
	} {
		for _, burst := range []uint32{0, 7, most32} {
			b, want := quota.Bucket{Rate: 3, Burst: burst, Tokens: x.tokens}, quota.Bucket{Rate: 3, Burst: burst, Tokens: x.want}
			if got, ok := quota.Take(b, x.n); got != want || ok != x.ok {
				t.Errorf("Take(%v, %d): %v, %v", b, x.n, got, ok)
			}
		}
	}
}

// TestBucketsAreValues: 'Ways' and R2, whatever is done with a bucket, those that were ahead of it stay, and answer what they did.
func TestBucketsAreValues(t *testing.T) {
	full, why := quota.New(2, 9)
	if why != api.OK {
		t.Fatal(why)
	}
	some, ok := quota.Take(full, 7)
	rest, let := quota.Take(some, 3)
	more := quota.Tick(some, 1)
	for _, x := range []struct{ got, want quota.Bucket }{
		{full, quota.Bucket{Rate: 2, Burst: 9, Tokens: 9}},
		{some, quota.Bucket{Rate: 2, Burst: 9, Tokens: 2}},
		{rest, some},
		{more, quota.Bucket{Rate: 2, Burst: 9, Tokens: 4}},
	} {
		if x.got != x.want || !ok || let {
			t.Errorf("%v, not %v; %v, %v", x.got, x.want, ok, let)
		}
	}
	more.Rate, more.Burst, more.Tokens, rest.Tokens = 1, 1, 1, 77
	if again, _ := quota.New(2, 9); again != full || some.Tokens != 2 {
		t.Errorf("%v, %v, %v", again, full, some)
	}
	if again, ok := quota.Take(full, 7); again != some || !ok {
		t.Errorf("%v, %v", again, ok)
	}
}

// TestChains: P14.1, P14.2, a bucket that New made, through Takes and Ticks: it goes by plain counting, and never has more than its Burst.
func TestChains(t *testing.T) {
	rnd := rand.New(rand.NewSource(142))
	for range 300 {
		rate, burst := uint32(rnd.Intn(6)), uint32(rnd.Intn(60))
		if rnd.Intn(3) == 0 {
			rate, burst = uint32(rnd.Intn(api.MaxRate+1)), uint32(rnd.Intn(api.MaxRate+1))
		}
		b, why := quota.New(rate, burst)
		if why != api.OK {
			t.Fatalf("New(%d, %d): %d", rate, burst, why)
		}
		tokens := int64(burst)
		for range 200 {
			if rnd.Intn(2) == 0 {
				times := uint64(rnd.Intn(5))
				b, tokens = quota.Tick(b, times), min(tokens+int64(times)*int64(rate), int64(burst))
			} else {
				n := uint32(rnd.Intn(int(burst) + 2))
				c, ok := quota.Take(b, n)
				if ok != (int64(n) <= tokens) {
					t.Fatalf("Take(%v, %d): %v", b, n, ok)
				}
				if b = c; ok {
					tokens -= int64(n)
				}
			}
			if want := (quota.Bucket{Rate: rate, Burst: burst, Tokens: uint32(tokens)}); b != want {
				t.Fatalf("%v, not %v", b, want)
			}
		}
	}
}
