package lex

import (
	"slices"
	"strings"
	"testing"

	"skerry/api"
)

// TestP1_3OnlyAround: pieces far from a splice are not cut again. (Those that are given have another kind than the text says: pieces that are cut again would lose it.)
func TestP1_3OnlyAround(t *testing.T) {
	text := strings.Repeat(",", 500)
	var old []api.Piece
	for i := range text {
		old = append(old, api.Piece{Kind: api.TkPat, At: i, Len: 1})
	}
	s := api.Splice{At: 250, Del: 3, Ins: ";;;;;"}
	changed, _ := Change(text, s)
	now := recut(text, changed, old, s)
	if len(now) != 502 {
		t.Fatalf("there are %d pieces", len(now))
	}
	cut := func(p api.Piece) bool { return p.Kind != api.TkPat }
	first := slices.IndexFunc(now, cut)
	slices.Reverse(now)
	last := len(now) - 1 - slices.IndexFunc(now, cut)
	if first < 250-api.MaxReach-2 || last != 254 {
		t.Errorf("the pieces from %d to %d are cut again", first, last)
	}
}
