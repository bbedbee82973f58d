package fair_test

import (
	"math"
	"math/big"
	"testing"

	"deponent/fair"
)

const most20 = 1 << 20

// brought answers n between two bounds.
func brought(n, least, most int) int {
	if n < least {
		return least
	}
	if n > most {
		return most
	}
	return n
}

// wantedWait goes by the words of the chapter: the least number of turns of a lane in which ahead + 1 are taken, times lanes.
func wantedWait(ahead, weight, quantum, lanes int) int {
	leaves := int64(brought(ahead, 0, most20)) + 1
	each := int64(brought(weight, 1, 4) * brought(quantum, 1, 2))
	turns, rest := new(big.Int).DivMod(big.NewInt(leaves), big.NewInt(each), new(big.Int))
	if rest.Sign() > 0 {
		turns.Add(turns, big.NewInt(1))
	}
	return int(turns.Mul(turns, big.NewInt(int64(brought(lanes, 1, most20)))).Int64())
}

// TestWait: P16.2, all small numbers, those below their least among them.
func TestWait(t *testing.T) {
	for ahead := -3; ahead <= 70; ahead++ {
		for weight := -2; weight <= 7; weight++ {
			for quantum := -2; quantum <= 5; quantum++ {
				for lanes := -2; lanes <= 18; lanes++ {
					wantWait(t, ahead, weight, quantum, lanes, wantedWait(ahead, weight, quantum, lanes))
				}
			}
		}
	}
}

// TestWaitAtTheEnds: P16.2, each of its numbers below its least, at both ends, between them, and above its greatest, with each of the others.
func TestWaitAtTheEnds(t *testing.T) {
	small := []int{math.MinInt, -1, 0, 1, 2, 3, 4, 5, 9, math.MaxInt}
	for _, ahead := range append(ends(), most20-2, most20+2, 1<<40) {
		for _, weight := range small {
			for _, quantum := range small {
				for _, lanes := range append(ends(), most20-2, most20+2, 1<<40) {
					wantWait(t, ahead, weight, quantum, lanes, wantedWait(ahead, weight, quantum, lanes))
				}
			}
		}
	}
}

// TestWaitWrittenOut: P16.2, some of these, written out.
func TestWaitWrittenOut(t *testing.T) {
	const most, least = math.MaxInt, math.MinInt
	for _, x := range [][5]int{
		// Rounded up.
		{0, 1, 1, 1, 1}, {1, 1, 1, 1, 2}, {2, 1, 1, 1, 3}, {0, 3, 1, 1, 1}, {1, 3, 1, 1, 1}, {2, 3, 1, 1, 1}, {3, 3, 1, 1, 2}, {5, 3, 1, 1, 2}, {6, 3, 1, 1, 3},
		{7, 4, 2, 1, 1}, {8, 4, 2, 1, 2}, {15, 4, 2, 1, 2}, {16, 4, 2, 1, 3}, {5, 3, 2, 1, 1}, {6, 3, 2, 1, 2}, {3, 2, 2, 5, 5}, {4, 2, 2, 5, 10}, {63, 1, 1, 15, 960},
		// ahead.
		{-1, 1, 1, 3, 3}, {least, 1, 1, 3, 3}, {least, 4, 2, 3, 3}, {most20 - 1, 1, 1, 1, most20}, {most20, 1, 1, 1, most20 + 1}, {most20 + 1, 1, 1, 1, most20 + 1}, {most, 1, 1, 1, most20 + 1},
		{most20 - 1, 4, 2, 1, 131072}, {most20, 4, 2, 1, 131073}, {most, 4, 2, 1, 131073}, {most20, 3, 1, 1, 349526}, {most, 3, 2, 1, 174763},
		// weight and quantum.
		{9, 0, 1, 1, 10}, {9, -1, 1, 1, 10}, {9, least, 1, 1, 10}, {9, 4, 1, 1, 3}, {9, 5, 1, 1, 3}, {9, most, 1, 1, 3},
		{9, 1, 0, 1, 10}, {9, 1, -1, 1, 10}, {9, 1, least, 1, 10}, {9, 1, 2, 1, 5}, {9, 1, 3, 1, 5}, {9, 1, most, 1, 5}, {99, most, most, 1, 13}, {99, least, least, 1, 100},
		// lanes.
		{0, 1, 1, 0, 1}, {0, 1, 1, -1, 1}, {4, 1, 1, least, 5}, {0, 1, 1, most20 - 1, most20 - 1}, {0, 1, 1, most20, most20}, {0, 1, 1, most20 + 1, most20}, {4, 1, 1, most, 5 * most20},
		// All at their greatest, and all below their least.
		{most20, 1, 1, most20, (most20 + 1) * most20}, {most, least, least, most, (most20 + 1) * most20}, {most, most, most, most, 131073 * most20}, {least, least, least, least, 1}, {least, most, most, least, 1},
	} {
		wantWait(t, x[0], x[1], x[2], x[3], x[4])
	}
}

// TestWaitIsServed: P16.1, P16.2, what Wait tells of one lane is how many turns Serve needs until the leaf is taken.
func TestWaitIsServed(t *testing.T) {
	for weight := 1; weight <= 6; weight++ {
		for quantum := -1; quantum <= 4; quantum++ {
			for ahead := range 70 {
				l := []fair.Lane{lane(weight, ahead+3, 0)}
				turns, taken := 0, 0
				for taken <= ahead {
					x, after := fair.Serve(l, 0, quantum)
					taken += x.Take
					turns++
					l = after
				}
				wantWait(t, ahead, weight, quantum, 1, turns)
			}
		}
	}
}
