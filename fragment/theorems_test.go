package fragment_test

import (
	"math"
	"math/rand"
	"slices"
	"strings"
	"testing"

	"skerry/api"
	"skerry/fragment"
)

// closes reports whether a token closes a group.
func closes(x api.Token) bool {
	return x.Kind == api.TkSign && strings.Contains(")]}", x.Text) || x.Kind == api.TkName && x.Text == "end"
}

// dropped reports whether names may be dropped from tokens, so that the others have the texts of the tokens flat; apart from closing tokens these are the same.
func dropped(all, flat []api.Token) bool {
	i, closed := 0, false
	for _, x := range all {
		switch {
		case i < len(flat) && (flat[i] == x || closes(x) && closes(flat[i]) && flat[i].Text == x.Text && flat[i].Kind == x.Kind && flat[i].Num == 0):
			closed = closes(x)
			i++
		case closed && x.Kind == api.TkName: // it stands behind an end, or behind one that does
		default:
			return false
		}
	}
	return i == len(flat)
}

func TestP2_2Back(t *testing.T) {
	rnd := rand.New(rand.NewSource(2))
	drops := 0
	for range 2500 {
		l, words, all := readable(rnd)
		if e := fragment.Check(l, words); e != api.OK {
			t.Fatalf("Check of %s, which was read with %q, = %v", show(l), words, e)
		}
		flat := fragment.Flat(l)
		again, at, e := fragment.Read(flat, words)
		if !exactly(again, l) || at != 0 || e != api.OK {
			t.Fatalf("Read of Flat of %s, with %q, = %s, %d, %v", show(l), words, show(again), at, e)
		}
		if !dropped(all, flat) {
			t.Fatalf("Flat of what was read from %q is %q", texts(all), texts(flat))
		}
		if len(flat) < len(all) {
			drops++
		}
	}
	if drops < 500 {
		t.Errorf("only %d lists had tokens that were dropped", drops)
	}
}

// span is where a group begins and ends in the tokens of fragments.
type span struct {
	open       string
	begin, end int
	depth      int
}

// spans returns the groups of fragments whose first token has the index at, and the index behind the last one.
func spans(l []api.Frag, at, depth int) ([]span, int) {
	var out []span
	for _, f := range l {
		begin := at
		at++
		if f.Open != "" {
			inner, end := spans(f.Kids, at, depth+1)
			out = append(append(out, span{f.Open, begin, end, depth}), inner...)
			at = end + 1
		}
	}
	return out, at
}

func TestP2_3Matched(t *testing.T) {
	rnd := rand.New(rand.NewSource(3))
	sort := func(s string) string {
		if closer, ok := map[string]string{"(": ")", "[": "]", "{": "}"}[s]; ok {
			return closer
		}
		return "end"
	}
	for range 1500 {
		l, _, _ := readable(rnd)
		flat := fragment.Flat(l)
		groups, n := spans(l, 0, 1)
		if n != len(flat) || fragment.Size(l) != n {
			t.Fatalf("%s has %d tokens, and the Size %d; expected %d", show(l), len(flat), fragment.Size(l), n)
		}
		opened := map[int]string{}
		deepest := 0
		for _, g := range groups {
			opened[g.begin] = sort(g.open)
			deepest = max(deepest, g.depth)
		}
		if fragment.Depth(l) != deepest {
			t.Fatalf("Depth of %s is %d; expected %d", show(l), fragment.Depth(l), deepest)
		}
		for _, g := range groups {
			count, at := 1, g.begin
			for count > 0 {
				at++
				if opened[at] == sort(g.open) {
					count++
				}
				if flat[at].Text == sort(g.open) {
					count--
				}
			}
			around := 0
			for _, h := range groups {
				if h.begin < g.begin && g.end < h.end {
					around++
				}
			}
			if at != g.end || g.depth != around+1 {
				t.Fatalf("in %s the group at %d ends at %d; expected %d; its depth is %d, with %d around it", show(l), g.begin, g.end, at, g.depth, around)
			}
		}
	}
}

func TestP2_4Prefix(t *testing.T) {
	rnd := rand.New(rand.NewSource(4))
	found := map[api.Errno]int{}
	for range 8000 {
		words := someWords(rnd)
		l := change(rnd, nest(rnd, 3))
		if rnd.Intn(5) == 0 {
			l = append(scan(t, strings.Repeat("( begin ", 48)+strings.Repeat("macro m", rnd.Intn(5))), l...)
		}
		_, at, e := fragment.Read(l, words)
		if e == api.OK || e == api.ErrOpen || at >= len(l)-2 {
			continue
		}
		found[e]++
		for range 3 {
			other := slices.Concat(l[:at+3], noise(rnd, 4))
			if got, otherAt, otherErr := fragment.Read(other, words); got != nil || otherAt != at || otherErr != e {
				t.Fatalf("Read of %q = %d, %v; of %q it is %d, %v", texts(l), at, e, texts(other), otherAt, otherErr)
			}
		}
	}
	for _, e := range []api.Errno{api.ErrToken, api.ErrDeep, api.ErrStray} {
		if found[e] < 50 {
			t.Errorf("the error %v was there %d times", e, found[e])
		}
	}
}

func TestP2_5Parts(t *testing.T) {
	rnd := rand.New(rand.NewSource(5))
	for range 1200 {
		a, words, _ := readable(rnd)
		var b []api.Frag
		for {
			b, _, _ = readable(rnd)
			if fragment.Check(b, words) == api.OK {
				break
			}
		}
		if len(a) > 0 {
			last := a[len(a)-1]
			if last.Open == "class" || last.Open == "method" || last.Open == "macro" || last.Open == "" && last.Tok.Text == "class" {
				continue
			}
		}
		if e := fragment.Check(slices.Concat(a, b), words); e != api.OK {
			t.Fatalf("%s and %s are readable with %q, but one behind the other they are not: %v", show(a), show(b), words, e)
		}
	}
	var kids func(l []api.Frag, words []string)
	kids = func(l []api.Frag, words []string) {
		for _, f := range l {
			if f.Open != "macro" {
				if e := fragment.Check(f.Kids, words); e != api.OK {
					t.Fatalf("the kids of %s are not readable with %q: %v", show([]api.Frag{f}), words, e)
				}
				kids(f.Kids, words)
			}
		}
	}
	for range 1000 {
		l, words, _ := readable(rnd)
		kids(l, words)
	}
}

// paths returns all paths in fragments.
func paths(l []api.Frag) [][]int {
	var out [][]int
	for i, f := range l {
		out = append(out, []int{i})
		for _, p := range paths(f.Kids) {
			out = append(out, append([]int{i}, p...))
		}
	}
	return out
}

func TestP2_6Pieces(t *testing.T) {
	rnd := rand.New(rand.NewSource(6))
	for range 3000 {
		l, _, _ := readable(rnd)
		for _, s := range []string{",", ";", "=", "m"} {
			pieces := fragment.Split(l, s)
			count := 1
			for _, f := range l {
				if f.Open == "" && f.Tok.Kind == api.TkSign && f.Tok.Text == s {
					count++
				}
			}
			joined := fragment.Join(pieces, s)
			if len(pieces) != count || len(joined) != len(l) {
				t.Fatalf("Split(%s, %q) has %d pieces; expected %d", show(l), s, len(pieces), count)
			}
			for i := range joined {
				if joined[i].Tok.Kind == api.TkSign && joined[i].Tok.Text == s {
					joined[i].Tok.At, joined[i].Tok.Mark = l[i].Tok.At, l[i].Tok.Mark
				}
			}
			if !exactly(joined, l) {
				t.Fatalf("Join of Split(%s, %q) is %s", show(l), s, show(joined))
			}
		}
	}
	for range 300 {
		l, _, _ := readable(rnd)
		for _, p := range paths(l) {
			by, _, _ := readable(rnd)
			if len(by) == 0 {
				continue
			}
			m, e := fragment.Put(l, p, by[:1])
			if e != api.OK {
				t.Fatalf("Put(%s, %v) = %v", show(l), p, e)
			}
			if f, e := fragment.At(m, p); e != api.OK || !exactly([]api.Frag{f}, by[:1]) {
				t.Fatalf("At of Put of %s is %s, %v", show(by[:1]), show([]api.Frag{f}), e)
			}
			old, _ := fragment.At(l, p)
			if again, e := fragment.Put(m, p, []api.Frag{old}); e != api.OK || !exactly(again, l) {
				t.Fatalf("Put of what was at %v in %s is %s, %v", p, show(l), show(again), e)
			}
		}
	}
}

func TestP2_7Marks(t *testing.T) {
	rnd := rand.New(rand.NewSource(7))
	numbers := []int{0, 1, 2, 1000, math.MaxInt}
	for range 4000 {
		words := someWords(rnd)
		l := nest(rnd, 3)
		if rnd.Intn(2) == 0 {
			l = noise(rnd, 6)
		}
		moved := slices.Clone(l)
		for i := range moved {
			moved[i].At, moved[i].Mark = numbers[rnd.Intn(5)], numbers[rnd.Intn(5)]
		}
		a, at, e := fragment.Read(l, words)
		b, movedAt, movedErr := fragment.Read(moved, words)
		if !fragment.Same(a, b) || at != movedAt || e != movedErr {
			t.Fatalf("Read of %q = %s, %d, %v; with other marks it is %s, %d, %v", texts(l), show(a), at, e, show(b), movedAt, movedErr)
		}
	}
}

func TestP2_8Words(t *testing.T) {
	rnd := rand.New(rand.NewSource(8))
	tried := 0
	for range 2000 {
		l, words, _ := readable(rnd)
		flat := fragment.Flat(l)
		for _, w := range append(given, "other", "slots") {
			in := slices.ContainsFunc(flat, func(x api.Token) bool { return x.Kind == api.TkName && x.Text == w })
			if in || slices.Contains(words, w) {
				continue
			}
			tried++
			if e := fragment.Check(l, append(slices.Clone(words), w)); e != api.OK {
				t.Fatalf("%s is readable with %q, but not with %s as well: %v", show(l), words, w, e)
			}
		}
	}
	if tried < 2000 {
		t.Errorf("only %d further words were tried", tried)
	}
}

// wild returns random fragments, most of which cannot be read.
func wild(rnd *rand.Rand, n int) []api.Frag {
	var out []api.Frag
	for range rnd.Intn(4) {
		f := api.Frag{}
		if rnd.Intn(10) > 0 {
			f.Tok = token(rnd, vocabulary[rnd.Intn(len(vocabulary))])
		}
		if rnd.Intn(2) == 0 {
			f.Open = f.Tok.Text
		}
		if rnd.Intn(10) == 0 {
			f.Open = vocabulary[rnd.Intn(len(vocabulary))]
		}
		if rnd.Intn(20) == 0 {
			f.Tok.At = -1
		}
		if n > 0 && (f.Open != "" || rnd.Intn(10) == 0) {
			f.Kids = wild(rnd, n-1)
		}
		out = append(out, f)
	}
	return out
}

// TestP2_1AnyArguments: no function panics, or changes its arguments, whatever these are; what Check takes is what reading returns, and calls have the same results again.
func TestP2_1AnyArguments(t *testing.T) {
	rnd := rand.New(rand.NewSource(99))
	numbers := []int{math.MinInt, -1, 0, 0, 0, 1, 1, 2, 3, math.MaxInt}
	right := 0
	for range 20000 {
		l, by, words := wild(rnd, 4), wild(rnd, 2), someWords(rnd)
		before := show(l)
		flat := fragment.Flat(l)
		again, _, e := fragment.Read(flat, words)
		check := fragment.Check(l, words)
		if want := e == api.OK && exactly(again, l); want != (check == api.OK) || !want && check != api.ErrFrag {
			t.Fatalf("Check of %v, with %q, = %v; read again they are %v, %v", l, words, check, again, e)
		}
		if check == api.OK && len(l) > 0 {
			right++
		}
		if fragment.Size(l) != len(flat) || !slices.Equal(flat, fragment.Flat(l)) || !fragment.Same(l, l) {
			t.Fatalf("Flat, Size or Same of %v are not right", l)
		}
		path := []int{}
		for range rnd.Intn(4) {
			path = append(path, numbers[rnd.Intn(len(numbers))])
		}
		f, e := fragment.At(l, path)
		m, putErr := fragment.Put(l, path, append(by, f))
		if e != putErr || e == api.OK && fragment.Size(m) == 0 {
			t.Fatalf("At(%v, %v) = %v, but Put = %v", l, path, e, putErr)
		}
		pieces := fragment.Split(l, vocabulary[rnd.Intn(len(vocabulary))])
		fragment.Join(pieces, vocabulary[rnd.Intn(len(vocabulary))])
		fragment.Text(l)
		if show(l) != before {
			t.Fatalf("%v was changed", l)
		}
	}
	if right < 200 {
		t.Errorf("only %d lists were readable", right)
	}
}
