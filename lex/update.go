package lex

import "skerry/api"

// recut returns the pieces of the text now, which has come from the text was, with the pieces old, by a splice. Pieces that the splice cannot reach are moved, not cut.
func recut(was, now string, old []api.Piece, s api.Splice) []api.Piece {
	to := newCutter(now)
	from := newCutter(was)
	shift := len(now) - len(was)
	var out []api.Piece
	next := 0
	for next < len(old) && old[next].At+old[next].Len+api.MaxReach+1 < s.At {
		out = append(out, old[next])
		to.take(old[next])
		from.take(old[next])
		next++
	}
	for p := range to.pieces {
		out = append(out, p)
		for next < len(old) && from.at+shift < to.at {
			from.take(old[next])
			next++
		}
		if to.at >= s.At+len(s.Ins) && from.at+shift == to.at && from.operand == to.operand {
			break
		}
	}
	if to.done() {
		return out
	}
	for _, p := range old[next:] {
		p.At += shift
		to.take(p)
		out = append(out, p)
	}
	return out
}

// kept counts the pieces at both ends of a list that are the same as those of an older list, if the text has become longer by shift.
func kept(old, now []api.Piece, shift int) api.Kept {
	most := min(len(old), len(now))
	var k api.Kept
	for k.Front < most && old[k.Front] == now[k.Front] {
		k.Front++
	}
	for k.Front+k.Back < most {
		p := old[len(old)-1-k.Back]
		p.At += shift
		if p != now[len(now)-1-k.Back] {
			break
		}
		k.Back++
	}
	return k
}
