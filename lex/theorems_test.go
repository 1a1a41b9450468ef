package lex_test

import (
	"math"
	"math/rand"
	"slices"
	"strings"
	"testing"

	"skerry/api"
	"skerry/lex"
)

// scan returns the tokens of a text that has no error.
func scan(t *testing.T, text string) []api.Token {
	t.Helper()
	l, _, e := lex.Scan(text)
	if e != api.OK {
		t.Fatalf("Scan(%q): %v", text, e)
	}
	return l
}

func TestP1_7NothingIsLost(t *testing.T) {
	rnd := rand.New(rand.NewSource(7))
	for range 1000 {
		text := goodText(rnd, 60)
		at := 0
		for _, p := range pieces(t, text) {
			if p.At != at || p.Len <= 0 || p.Kind < api.TkName || p.Kind > api.PcComment {
				t.Fatalf("the pieces of %q have %v at %d", text, p, at)
			}
			at += p.Len
		}
		if at != len(text) {
			t.Fatalf("the pieces of %q are %d bytes of %d", text, at, len(text))
		}
	}
}

// negative reports whether a token is an integer with a -.
func negative(t api.Token) bool { return t.Kind == api.TkNum && t.Text[0] == '-' }

// operand reports whether a - behind a token is a sign.
func operand(t api.Token) bool {
	return t.Kind == api.TkName || t.Kind == api.TkNum || t.Kind == api.TkHash || t.Text == ")" || t.Text == "]"
}

func TestP1_8Again(t *testing.T) {
	rnd := rand.New(rand.NewSource(8))
	for range 1000 {
		text := goodText(rnd, 60)
		l := scan(t, text)
		for _, x := range l {
			alone, _, e := lex.Scan(x.Text)
			if e != api.OK || len(alone) != 1 || alone[0].Kind != x.Kind || alone[0].Num != x.Num || lex.Kind(x.Text) != x.Kind || lex.Check(x) != api.OK {
				t.Fatalf("the token %v of %q is, cut alone, %v, %v", x, text, alone, e)
			}
		}
		rnd.Shuffle(len(l), func(i, j int) { l[i], l[j] = l[j], l[i] })
		for i := 1; i < len(l); i++ {
			if negative(l[i]) && operand(l[i-1]) {
				l = slices.Insert(l, i, api.Token{Kind: api.TkSign, Text: ","})
			}
		}
		if again, _, e := lex.Scan(lex.Join(l)); e != api.OK || !lex.Same(again, l) {
			t.Fatalf("%q has the tokens %v, %v; expected %v", lex.Join(l), again, e, l)
		}
	}
	minus := []api.Token{{Kind: api.TkName, Text: "a"}, {Kind: api.TkNum, Text: "-3", Num: -3}}
	if l := scan(t, lex.Join(minus)); len(l) != 3 {
		t.Errorf("%q has the tokens %v", lex.Join(minus), l)
	}
}

// TestP1_9Gaps leaves out the blanks behind a comment to the end of the line, whose line feed ends this.
func TestP1_9Gaps(t *testing.T) {
	rnd := rand.New(rand.NewSource(9))
	for range 400 {
		text := goodText(rnd, 40)
		tokens := scan(t, text)
		line := false
		for _, p := range pieces(t, text) {
			end := p.At + p.Len
			for _, gap := range []string{" ", " /* other */ ", " /*(*/ "} {
				if p.Kind >= api.PcBlank && !line {
					if by := text[:p.At] + gap + text[end:]; !lex.Same(scan(t, by), tokens) {
						t.Fatalf("%q has other tokens than %q", by, text)
					}
				}
				if !line {
					if by := text[:p.At] + gap + text[p.At:]; !lex.Same(scan(t, by), tokens) {
						t.Fatalf("%q has other tokens than %q", by, text)
					}
				}
			}
			line = p.Kind == api.PcComment && text[p.At+1] == '/'
		}
	}
}

// randomSplice returns a splice of a text.
func randomSplice(rnd *rand.Rand, text string) api.Splice {
	at := rnd.Intn(len(text) + 1)
	return api.Splice{At: at, Del: rnd.Intn(min(len(text)-at, 30) + 1), Ins: randomText(rnd, 3, rnd.Intn(4) == 0)}
}

// naiveKept counts the pieces that are kept as the chapter defines it.
func naiveKept(old, now []api.Piece, shift int) api.Kept {
	var k api.Kept
	for n := range min(len(old), len(now)) + 1 {
		if slices.Equal(old[:n], now[:n]) {
			k.Front = n
		}
	}
	for n := range min(len(old), len(now)) - k.Front + 1 {
		same := true
		for i := range n {
			a, b := old[len(old)-n+i], now[len(now)-n+i]
			same = same && a.Kind == b.Kind && a.Len == b.Len && a.At+shift == b.At
		}
		if same {
			k.Back = n
		}
	}
	return k
}

// TestP1_3UpdateIsPieces: Update is Pieces of the changed text, after splices anywhere.
func TestP1_3UpdateIsPieces(t *testing.T) {
	rnd := rand.New(rand.NewSource(3))
	for i := range 6000 {
		text := goodText(rnd, []int{4, 30, 150}[i%3])
		s := randomSplice(rnd, text)
		old := pieces(t, text)
		changed, _ := lex.Change(text, s)
		want, wantAt, wantErr := lex.Pieces(changed)
		var wantKept api.Kept
		if wantErr == api.OK {
			wantKept = naiveKept(old, want, len(changed)-len(text))
		}
		now, k, at, e := lex.Update(text, old, s)
		if !slices.Equal(now, want) || k != wantKept || at != wantAt || e != wantErr {
			t.Fatalf("Update(%q, %v) = %v, %v, %d, %v; expected %v, %v, %d, %v", text, s, now, k, at, e, want, wantKept, wantAt, wantErr)
		}
	}
}

func TestP1_10Local(t *testing.T) {
	rnd := rand.New(rand.NewSource(10))
	for range 1500 {
		text := goodText(rnd, 200)
		s := randomSplice(rnd, text)
		old := pieces(t, text)
		_, k, _, e := lex.Update(text, old, s)
		if e != api.OK {
			continue
		}
		for i, p := range old {
			if p.At+p.Len+api.MaxReach+1 < s.At && i >= k.Front {
				t.Fatalf("Update(%q, %v): the piece %d is not among the first %d", text, s, i, k.Front)
			}
		}
	}
}

// TestP1_10Reach: what is just within the reach of a rule changes a piece, and what is just behind it does not.
func TestP1_10Reach(t *testing.T) {
	for _, x := range []struct {
		fill, front int
		want        api.Errno
	}{{30, 2, api.OK}, {98, 0, api.ErrLong}, {99, 102, api.OK}, {150, 153, api.OK}} {
		text := "; <" + strings.Repeat("+", x.fill)
		_, k, _, e := lex.Update(text, pieces(t, text), api.Splice{At: len(text), Ins: "a"})
		if k.Front != x.front || e != x.want {
			t.Errorf("%d signs: Update keeps %v, %v; expected %d in front, %v", x.fill, k, e, x.front, x.want)
		}
	}
}

func TestP1_11Longest(t *testing.T) {
	rnd := rand.New(rand.NewSource(11))
	for range 1000 {
		text := goodText(rnd, 60)
		for _, x := range scan(t, text) {
			end := x.At + len(x.Text)
			if end == len(text) || (x.Kind == api.TkName || x.Kind == api.TkPat) && text[end] == ':' || x.Text == "-" && '0' <= text[end] && text[end] <= '9' {
				continue
			}
			if kind := lex.Kind(text[x.At : end+1]); kind != 0 {
				t.Fatalf("%q is a token of the kind %d, but in %q it is cut behind %q", text[x.At:end+1], kind, text, x.Text)
			}
		}
	}
}

func TestP1_12Undone(t *testing.T) {
	rnd := rand.New(rand.NewSource(12))
	for range 1000 {
		text := goodText(rnd, 60)
		s := randomSplice(rnd, text)
		old := pieces(t, text)
		changed, _ := lex.Change(text, s)
		now, k, _, e := lex.Update(text, old, s)
		if e != api.OK {
			continue
		}
		back := api.Splice{At: s.At, Del: len(s.Ins), Ins: text[s.At : s.At+s.Del]}
		if again, e := lex.Change(changed, back); e != api.OK || again != text {
			t.Fatalf("Change(%q, %v) = %q, %v; expected %q", changed, back, again, e, text)
		}
		again, kb, _, e := lex.Update(changed, now, back)
		if e != api.OK || !slices.Equal(again, old) || kb != k {
			t.Fatalf("Update(%q, %v) = %v, %v, %v; expected %v, %v", changed, back, again, kb, e, old, k)
		}
	}
}

// TestP1AnyArguments: no function panics, or fails to end, whatever its arguments are, and a call has the same results again.
func TestP1AnyArguments(t *testing.T) {
	rnd := rand.New(rand.NewSource(99))
	texts := []string{"", "\x00", strings.Repeat("/*", 15000), strings.Repeat("<", api.MaxText), strings.Repeat("?a:", 6000), strings.Repeat("9", api.MaxText+5)}
	for range 300 {
		b := make([]byte, rnd.Intn(40))
		rnd.Read(b)
		texts = append(texts, string(b))
	}
	numbers := []int{math.MinInt, -1, 0, 1, 2, math.MaxInt}
	for _, text := range texts {
		l, at, e := lex.Pieces(text)
		again, atAgain, eAgain := lex.Pieces(text)
		if !slices.Equal(l, again) || at != atAgain || e != eAgain || (l == nil) != (e != api.OK || text == "") {
			t.Fatalf("Pieces(%q): %v, %d, %v and %v, %d, %v", text, l, at, e, again, atAgain, eAgain)
		}
		lex.Scan(text)
		for _, i := range numbers {
			s := api.Splice{At: i, Del: numbers[rnd.Intn(len(numbers))], Ins: text}
			lex.Change(text, s)
			lex.Update(text, l, s)
			lex.Update(text, []api.Piece{{Kind: i, At: i, Len: i}}, s)
			lex.Check(api.Token{Kind: i, Num: i, Text: text, At: i, Mark: i})
			lex.Pattern(api.Token{Kind: api.TkPat, Num: i, Text: text})
			lex.Digits(i)
		}
		lex.Kind(text)
		lex.IsName(text)
		lex.IsPlain(text)
		lex.Split(text)
		lex.Number(text)
	}
}
