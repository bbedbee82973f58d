package merkle

import "deponent/api"

// Prove answers the hashes that lead from the leaf at index up to the Root of l, the lowest first.
func Prove(width int, l [][]byte, index uint64) ([]api.Digest, api.Errno) {
	if index >= uint64(len(l)) {
		return nil, api.ErrRange
	}
	return path(width, l, int(index)), api.OK
}

// path is Prove of an index that l has.
func path(width int, l [][]byte, index int) []api.Digest {
	if len(l) == 1 {
		return nil
	}
	k := parting(len(l))
	if index < k {
		return append(path(width, l[:k], index), Root(width, l[k:]))
	}
	return append(path(width, l[k:], index-k), Root(width, l[:k]))
}

// Compare answers the hashes that lead from the Root of the first from leaves up to that of l, the lowest first.
func Compare(width int, l [][]byte, from uint64) ([]api.Digest, api.Errno) {
	if from == 0 || from > uint64(len(l)) {
		return nil, api.ErrRange
	}
	return growth(width, l, int(from), true), api.OK
}

// growth is RFC 6962's SUBPROOF of the first m leaves of l, of which there are 1 at least. As long as known holds, l begins where all leaves do, so that the Root of the first m is the one that is asked of, and needn't be told.
func growth(width int, l [][]byte, m int, known bool) []api.Digest {
	if m == len(l) {
		if known {
			return nil
		}
		return []api.Digest{Root(width, l)}
	}
	k := parting(len(l))
	if m <= k {
		return append(growth(width, l[:k], m, known), Root(width, l[k:]))
	}
	return append(growth(width, l[k:], m-k, false), Root(width, l[:k]))
}
