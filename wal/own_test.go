package wal_test

import (
	"bytes"
	"testing"

	"deponent/api"
)

// spoil changes all of b, its spare room too.
func spoil(b []byte) {
	b = b[:cap(b)]
	for i := range b {
		b[i] ^= 0xa5
	}
}

// TestHandedInIsLeft: R2, Commit neither changes nor keeps what is handed in, nor the room behind it.
func TestHandedInIsLeft(t *testing.T) {
	for _, n := range []int{1, 100, 117, 118, 200, 500} {
		d, l := fresh(t, 20)
		all := patterned(n+40, 3)
		was := bytes.Clone(all)
		b := all[10 : 10+n]
		want := string(b)
		wantCommit(t, "ahead", l, b, api.OK)
		if !bytes.Equal(all, was) {
			t.Fatalf("%d bytes: what was handed in was changed", n)
		}
		spoil(all)
		wantRecords(t, "spoilt", l, want)
		wantRecords(t, "spoilt, opened", opened(t, d, 0, 20), want)
		wantCommit(t, "behind it", l, []byte("b"), api.OK)
		wantRecords(t, "behind it", l, want, "b")
		wantRecords(t, "behind it, opened", opened(t, d, 0, 20), want, "b")
	}
}

// TestRefusedIsLeft: R2, neither does a Commit that is refused.
func TestRefusedIsLeft(t *testing.T) {
	d, l := fresh(t, 4)
	b := patterned(l.Room()+1, 1)
	was := bytes.Clone(b)
	wantCommit(t, "too much", l, b, api.ErrFull)
	d.Stop(0)
	wantCommit(t, "stopped", l, b[:9], api.ErrDisk)
	if !bytes.Equal(b, was) {
		t.Fatal("what was handed in was changed")
	}
}

// TestAnsweredIsNew: R2, each record of each answer is memory of its own, its spare room too.
func TestAnsweredIsNew(t *testing.T) {
	d, l := fresh(t, 20)
	want := []string{"a", string(patterned(200, 1)), "b", string(patterned(117, 2))}
	for _, s := range want {
		wantCommit(t, "ahead", l, []byte(s), api.OK)
	}
	for range 2 {
		kept := l.Records()
		for i := range want {
			list := l.Records()
			spoil(list[i])
			for k := range list {
				if k != i && string(list[k]) != want[k] {
					t.Fatalf("record %d was changed with record %d", k, i)
				}
			}
			list = append(list[:i], []byte("other"))
			list[0] = nil
			wantRecords(t, "spoilt", l, want...)
		}
		for i, s := range want {
			if string(kept[i]) != s {
				t.Fatalf("record %d of an earlier answer was changed", i)
			}
		}
		l = opened(t, d, 0, 20)
	}
	for _, b := range l.Records() {
		spoil(b)
	}
	wantCommit(t, "spoilt", l, []byte("c"), api.OK)
	wantRecords(t, "spoilt", opened(t, d, 0, 20), append(want, "c")...)
}

// TestEarlierAnswersStay: R2, what was answered stays as it is, whatever the log does.
func TestEarlierAnswersStay(t *testing.T) {
	_, l := fresh(t, 20)
	wantCommit(t, "ahead", l, []byte("first"), api.OK)
	was := l.Records()
	wantClear(t, "cleared", l, api.OK)
	wantCommit(t, "over it", l, []byte("other"), api.OK)
	if told(was) != told([][]byte{[]byte("first")}) {
		t.Fatalf("an earlier answer became %s", told(was))
	}
}

// TestSameAnswers: R4, logs that were given the same have the same on their disks and answer the same.
func TestSameAnswers(t *testing.T) {
	run := func() string {
		d, l := fresh(t, 20)
		wantCommit(t, "run", l, patterned(200, 1), api.OK)
		wantClear(t, "run", l, api.OK)
		wantCommit(t, "run", l, patterned(300, 2), api.OK)
		return image(d) + told(l.Records())
	}
	if run() != run() {
		t.Error("two runs differ")
	}
}
