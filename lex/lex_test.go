package lex_test

import (
	"math/big"
	"regexp"
	"slices"
	"strings"
	"testing"

	"fugue/api"
	"fugue/lex"
)

var (
	refused = func(e api.Errno, at int) api.At { return api.At{Errno: e, At: at} }
	taken   = api.At{}
	keys    = []string{"case", "class", "data", "in", "instance", "let", "of"}
	marks   = []string{"->", "=>", "\\", "=", "|", "(", ")", "{", "}", ";", ":", ",", "_"}
)

func low(at int, s string) lex.Token  { return lex.Token{Kind: lex.Lower, Text: s, At: at} }
func up(at int, s string) lex.Token   { return lex.Token{Kind: lex.Upper, Text: s, At: at} }
func key(at int, s string) lex.Token  { return lex.Token{Kind: lex.Key, Text: s, At: at} }
func mark(at int, s string) lex.Token { return lex.Token{Kind: lex.Symbol, Text: s, At: at} }
func end(at int) lex.Token            { return lex.Token{Kind: lex.End, At: at} }
func num(at int, s string, n int) lex.Token {
	return lex.Token{Kind: lex.Int, Text: s, N: n, At: at}
}

// takes tells whether a source has just these tokens.
func takes(t *testing.T, src string, want ...lex.Token) {
	t.Helper()
	if l, e := lex.Lex(src); e != taken || !slices.Equal(l, want) {
		t.Errorf("%.80q: %v, %v, not %v", src, l, e, want)
	}
}

// refuses tells whether a source has this refusal, and no tokens beside it.
func refuses(t *testing.T, src string, e api.Errno, at int) {
	t.Helper()
	if l, got := lex.Lex(src); got != refused(e, at) || len(l) != 0 {
		t.Errorf("%.80q: %v, %v, not %v at %d", src, l, got, e, at)
	}
}

// Words: the kinds, from 1 on, in their row.
func TestKinds(t *testing.T) {
	kinds := []int{lex.Lower, lex.Upper, lex.Int, lex.Symbol, lex.Key, lex.End}
	if !slices.Equal(kinds, []int{1, 2, 3, 4, 5, 6}) {
		t.Error(kinds)
	}
}

// P2.1: the chapter's example, and ordinary sources.
func TestLex(t *testing.T) {
	takes(t, "f x=1 -- one", low(0, "f"), low(2, "x"), mark(3, "="), num(4, "1", 1), end(12))
	takes(t, "", end(0))
	takes(t, "x", low(0, "x"), end(1))
	takes(t, "data L a = N | C a (L a)",
		key(0, "data"), up(5, "L"), low(7, "a"), mark(9, "="), up(11, "N"), mark(13, "|"), up(15, "C"), low(17, "a"),
		mark(19, "("), up(20, "L"), low(22, "a"), mark(23, ")"), end(24))
	takes(t, "f:E a=>a->a;\nf=\\x->case x of{_->7}",
		low(0, "f"), mark(1, ":"), up(2, "E"), low(4, "a"), mark(5, "=>"), low(7, "a"), mark(8, "->"), low(10, "a"), mark(11, ";"),
		low(13, "f"), mark(14, "="), mark(15, "\\"), low(16, "x"), mark(17, "->"), key(19, "case"), low(24, "x"), key(26, "of"),
		mark(28, "{"), mark(29, "_"), mark(30, "->"), num(32, "7", 7), mark(33, "}"), end(34))
}

// P2.1: a token is the longest that may stand there.
func TestLongest(t *testing.T) {
	takes(t, "letx", low(0, "letx"), end(4))
	takes(t, "let_ in' of1 Case", low(0, "let_"), low(5, "in'"), low(9, "of1"), up(13, "Case"), end(17))
	takes(t, "inin instances instanc", low(0, "inin"), low(5, "instances"), low(15, "instanc"), end(22))
	takes(t, "in\tinstance", key(0, "in"), key(3, "instance"), end(11))
	takes(t, "aB'_9Z", low(0, "aB'_9Z"), end(6))
	takes(t, "Ab'_9z", up(0, "Ab'_9z"), end(6))
	takes(t, "12ab3", num(0, "12", 12), low(2, "ab3"), end(5))
	takes(t, "1A'", num(0, "1", 1), up(1, "A'"), end(3))
	takes(t, "_a__", mark(0, "_"), low(1, "a__"), end(4))
	takes(t, "__1_", mark(0, "_"), mark(1, "_"), num(2, "1", 1), mark(3, "_"), end(4))
	takes(t, "==>=", mark(0, "="), mark(1, "=>"), mark(3, "="), end(4))
	takes(t, "=->", mark(0, "="), mark(1, "->"), end(3))
	takes(t, "->->=>", mark(0, "->"), mark(2, "->"), mark(4, "=>"), end(6))
	takes(t, ":::", mark(0, ":"), mark(1, ":"), mark(2, ":"), end(3))
	takes(t, "\\\\", mark(0, "\\"), mark(1, "\\"), end(2))
}

// P2.1: blanks, remarks among them, up to a byte 10 or the end.
func TestBlanks(t *testing.T) {
	takes(t, " \t\n", end(3))
	takes(t, "--", end(2))
	takes(t, "--\n", end(3))
	takes(t, "---", end(3))
	takes(t, "-->", end(3))
	takes(t, "--->x", end(5))
	takes(t, "-- a\n-- b", end(9))
	takes(t, "a--b", low(0, "a"), end(4))
	takes(t, "a--b\nc", low(0, "a"), low(5, "c"), end(6))
	takes(t, "=--\n=>", mark(0, "="), mark(4, "=>"), end(6))
	takes(t, "a --\tb\n\n\tc -- d -- e\n", low(0, "a"), low(9, "c"), end(21))
	takes(t, "->--x\ny", mark(0, "->"), low(6, "y"), end(7))
	takes(t, "--\r\x00\xff#\"\u00e4\nx", low(10, "x"), end(11))
	takes(t, "-- "+strings.Repeat("q", 100)+" 99999999999", end(115))
}

// P2.1: each byte alone, behind a name, and within a remark.
func TestEachByte(t *testing.T) {
	for i := range 256 {
		b := string([]byte{byte(i)})
		var want []lex.Token
		switch {
		case strings.Contains(" \t\n", b):
		case 'a' <= i && i <= 'z':
			want = append(want, low(0, b))
		case 'A' <= i && i <= 'Z':
			want = append(want, up(0, b))
		case '0' <= i && i <= '9':
			want = append(want, num(0, b, i-'0'))
		case strings.Contains("\\=|(){};:,_", b):
			want = append(want, mark(0, b))
		default:
			refuses(t, b, api.ErrChar, 0)
			refuses(t, "x ("+b, api.ErrChar, 3)
			refuses(t, "--\n\n"+b+"x", api.ErrChar, 4)
			takes(t, "--"+b, end(3))
			continue
		}
		takes(t, b, append(want, end(1))...)
	}
}

// P2.1: no token begins with the byte there.
func TestErrChar(t *testing.T) {
	refuses(t, "-", api.ErrChar, 0)
	refuses(t, "- -", api.ErrChar, 0)
	refuses(t, "-1", api.ErrChar, 0)
	refuses(t, "a -b", api.ErrChar, 2)
	refuses(t, "a-", api.ErrChar, 1)
	refuses(t, "->-", api.ErrChar, 2)
	refuses(t, ">", api.ErrChar, 0)
	refuses(t, "=>>", api.ErrChar, 2)
	refuses(t, "= >", api.ErrChar, 2)
	refuses(t, "=--\n>", api.ErrChar, 4)
	refuses(t, "'a", api.ErrChar, 0)
	refuses(t, "_'", api.ErrChar, 1)
	refuses(t, "1'", api.ErrChar, 1)
	refuses(t, "a\r\n", api.ErrChar, 1)
	refuses(t, "a@b", api.ErrChar, 1)
	refuses(t, "x\u00e4", api.ErrChar, 1)
	refuses(t, "\uff41", api.ErrChar, 0)
	refuses(t, "a\x00", api.ErrChar, 1)
	refuses(t, "a\v\f", api.ErrChar, 1)
	refuses(t, "a\u00a0", api.ErrChar, 1)
}

// P2.1: names of more than 32 bytes.
func TestLongNames(t *testing.T) {
	for n := 30; n <= 70; n++ {
		small, great := strings.Repeat("a", n), "Z"+strings.Repeat("_'9", n)[:n-1]
		if n <= 32 {
			takes(t, " "+small, low(1, small), end(n+1))
			takes(t, "="+great, mark(0, "="), up(1, great), end(n+1))
		} else {
			refuses(t, " "+small, api.ErrLong, 1)
			refuses(t, "="+great, api.ErrLong, 1)
			refuses(t, "x\n("+small+")", api.ErrLong, 3)
		}
	}
	half := strings.Repeat("a", 20)
	takes(t, half+"("+half, low(0, half), mark(20, "("), low(21, half), end(41))
}

// P2.1: numbers up to 2^31 - 1, by their value, not by their digits.
func TestNumbers(t *testing.T) {
	takes(t, "0", num(0, "0", 0), end(1))
	takes(t, "0000", num(0, "0000", 0), end(4))
	takes(t, "2147483647", num(0, "2147483647", 2147483647), end(10))
	takes(t, "00000000000002147483647", num(0, "00000000000002147483647", 2147483647), end(23))
	zeros := strings.Repeat("0", 4000)
	takes(t, zeros, num(0, zeros, 0), end(4000))
	for _, s := range []string{
		"2147483648", "02147483648", "2147483650", "3000000000", "4294967295", "4294967296", "4294967297", "9999999999",
		"9223372036854775807", "9223372036854775808", "18446744073709551616", "18446744073709551617",
		"340282366920938463463374607431768211457", strings.Repeat("9", 4000), "1" + strings.Repeat("0", 3999),
	} {
		refuses(t, s, api.ErrNumber, 0)
		if len(s) < 100 {
			refuses(t, "x = "+s+"y", api.ErrNumber, 4)
		}
	}
}

// P2.1: a source of more than 4000 bytes is refused ahead of all else; of other refusals the first counts.
func TestFirstRefusal(t *testing.T) {
	for _, b := range []string{" ", "x", "(", "9", "-", "\xff", "#", "\n"} {
		refuses(t, strings.Repeat(b, 4001), api.ErrLong, 0)
	}
	refuses(t, "x "+strings.Repeat("-", 3999), api.ErrLong, 0)
	refuses(t, strings.Repeat("\u00e4", 2001), api.ErrLong, 0)
	refuses(t, strings.Repeat(" ", 100000), api.ErrLong, 0)
	takes(t, strings.Repeat(" ", 4000), end(4000))
	takes(t, strings.Repeat("-", 4000), end(4000))
	refuses(t, strings.Repeat(" ", 3999)+"#", api.ErrChar, 3999)
	refuses(t, strings.Repeat("a", 4000), api.ErrLong, 0)
	if l, e := lex.Lex(strings.Repeat("(", 4000)); e != taken || len(l) != 4001 {
		t.Error(len(l), e)
	}

	name, digits := strings.Repeat("N", 33), "2147483648"
	refuses(t, "x "+name+" "+digits+" #", api.ErrLong, 2)
	refuses(t, "x "+digits+" "+name+" #", api.ErrNumber, 2)
	refuses(t, "x # "+name+" "+digits, api.ErrChar, 2)
	refuses(t, name+"#", api.ErrLong, 0)
	refuses(t, digits+"#", api.ErrNumber, 0)
	refuses(t, digits+name, api.ErrNumber, 0)
	refuses(t, name+digits, api.ErrLong, 0)
}

// P2.2: the texts in their row, but those of the end.
func TestPrint(t *testing.T) {
	for _, x := range []struct {
		l    []lex.Token
		want string
	}{
		{nil, ""},
		{[]lex.Token{}, ""},
		{[]lex.Token{end(0)}, ""},
		{[]lex.Token{low(7, "x")}, "x"},
		{[]lex.Token{low(0, "x"), end(1)}, "x"},
		{[]lex.Token{mark(0, "("), up(9, "A"), mark(3, ")"), num(1, "007", 7), key(2, "in"), end(5)}, "( A ) 007 in"},
		{[]lex.Token{end(0), low(0, "x"), end(0), end(0), low(0, "y")}, "x y"},
		{[]lex.Token{{Kind: lex.End, Text: "x"}, low(0, "y"), {Kind: lex.End, Text: "z"}}, "y"},
	} {
		if got := lex.Print(x.l); got != x.want {
			t.Errorf("%v: %q, not %q", x.l, got, x.want)
		}
	}
	l, _ := lex.Lex("f\n x=(\\y->_)--z\n;")
	was := slices.Clone(l)
	if got := lex.Print(l); got != "f x = ( \\ y -> _ ) ;" || !slices.Equal(l, was) {
		t.Errorf("%q, %v", got, l)
	}
}

// P2.2: the keys, each time in memory of their own; each is a token of its Kind.
func TestKeys(t *testing.T) {
	got := lex.Keys()
	if !slices.Equal(got, keys) {
		t.Fatal(got)
	}
	for i := range got {
		got[i] = "x"
	}
	if !slices.Equal(lex.Keys(), keys) {
		t.Error(lex.Keys())
	}
	takes(t, "x", low(0, "x"), end(1))
	for _, k := range keys {
		takes(t, k, key(0, k), end(len(k)))
		takes(t, "("+k+")", mark(0, "("), key(1, k), mark(len(k)+1, ")"), end(len(k)+2))
		upper := strings.ToUpper(k)
		takes(t, upper, up(0, upper), end(len(k)))
	}
	for _, s := range marks {
		takes(t, s, mark(0, s), end(len(s)))
	}
}

var (
	blank = regexp.MustCompile(`\A([ \t\n]|--[^\n]*)`)
	word  = regexp.MustCompile(`\A(?:([a-z][a-zA-Z0-9'_]*)|([A-Z][a-zA-Z0-9'_]*)|([0-9]+)|(->|=>|[\\=|(){};:,_]))`)
)

// bySay is Lex by the document's words, written another way.
func bySay(src string) ([]lex.Token, api.At) {
	if len(src) > 4000 {
		return nil, refused(api.ErrLong, 0)
	}
	var l []lex.Token
	for at := 0; ; {
		rest := src[at:]
		if rest == "" {
			return append(l, end(at)), taken
		}
		if b := blank.FindString(rest); b != "" {
			at += len(b)
			continue
		}
		m := word.FindStringSubmatch(rest)
		if m == nil {
			return nil, refused(api.ErrChar, at)
		}
		t := lex.Token{Text: m[0], At: at}
		for kind := lex.Lower; kind <= lex.Symbol; kind++ {
			if m[kind] != "" {
				t.Kind = kind
			}
		}
		switch {
		case slices.Contains(keys, t.Text):
			t.Kind = lex.Key
		case t.Kind == lex.Int:
			n, _ := new(big.Int).SetString(t.Text, 10)
			if n.Cmp(big.NewInt(1<<31-1)) > 0 {
				return nil, refused(api.ErrNumber, at)
			}
			t.N = int(n.Int64())
		case t.Kind != lex.Symbol && len(t.Text) > 32:
			return nil, refused(api.ErrLong, at)
		}
		l = append(l, t)
		at += len(t.Text)
	}
}

// placeless is tokens without their places.
func placeless(l []lex.Token) []lex.Token {
	l = slices.Clone(l)
	for i := range l {
		l[i].At = 0
	}
	return l
}

// spread is a source with something more ahead of each token, and of the end.
func spread(src string, l []lex.Token, more string) string {
	var out strings.Builder
	at := 0
	for _, t := range l {
		out.WriteString(src[at:t.At])
		// A remark that goes up to the end takes what is laid behind it, unless its line ends first.
		if t.Kind == lex.End {
			out.WriteString("\n")
		}
		out.WriteString(more)
		at = t.At
	}
	return out.String() + src[at:]
}

// look holds a source against the document's words, and P2.3.
func look(t *testing.T, src string) {
	t.Helper()
	l, e := lex.Lex(src)
	want, refusal := bySay(src)
	if e != refusal || !slices.Equal(l, want) {
		t.Fatalf("%q: %v, %v, not %v, %v", src, l, e, want, refusal)
	}
	if e != taken {
		return
	}
	if p := lex.Print(l); len(p) <= 4000 {
		again, e := lex.Lex(p)
		if e != taken || !slices.Equal(placeless(again), placeless(l)) || lex.Print(again) != p {
			t.Fatalf("%q is printed %q, which is %v, %v", src, p, again, e)
		}
	}
	for _, more := range []string{" ", "\t", "\n", " \n\t ", "--\n", " -- in # 'x \n"} {
		s := spread(src, l, more)
		if len(s) > 4000 {
			continue
		}
		if again, e := lex.Lex(s); e != taken || !slices.Equal(placeless(again), placeless(l)) {
			t.Fatalf("%q, spread to %q: %v, %v", src, s, again, e)
		}
	}
}

// P2.1, P2.3: all short sources of some bytes.
func TestAllShort(t *testing.T) {
	var each func(s, bytes string, most int)
	each = func(s, bytes string, most int) {
		look(t, s)
		if len(s) < most {
			for i := range len(bytes) {
				each(s+bytes[i:i+1], bytes, most)
			}
		}
	}
	each("", "a->=\n_ ", 5)
	each("", "inA1'(\t\xff", 4)
}

// P2.1, P2.3: all pairs of pieces, side by side.
func TestPairs(t *testing.T) {
	pieces := append(slices.Concat(keys, marks), "x", "X", "7", "007", "x'", "X_", "2147483647", "2147483648", "-", "--", "-- x\n",
		" ", "\n", "\t", "\r", "#", "'", strings.Repeat("a", 31), strings.Repeat("B", 32), strings.Repeat("c", 33))
	for _, a := range pieces {
		for _, b := range pieces {
			look(t, a+b)
			look(t, a+" "+b)
			look(t, "("+a+b+")")
		}
	}
}

// P2.3: programs, too, come back as they were.
func TestPrograms(t *testing.T) {
	for _, src := range []string{
		"id x = x",
		"class E a { same : a -> a -> Bool } ; f x y = same x y",
		"data L a = N | C a (L a) ; -- a list\nlen l = case l of { N -> 0 ; C _ t -> add 1 (len t) }",
		"instance (E a,E b)=>E (P a b){same x y=eq 1 2};main=let{f x=f x}in(\\ y->7)(f 1)",
	} {
		look(t, src)
	}
}

// R5: what was asked before changes nothing.
func TestSameAgain(t *testing.T) {
	src := "f x=1 -- one"
	l, _ := lex.Lex(src)
	for i := range l {
		l[i] = lex.Token{}
	}
	lex.Lex("#")
	takes(t, src, low(0, "f"), low(2, "x"), mark(3, "="), num(4, "1", 1), end(12))
}

// P2.1, P2.3: of any bytes whatever.
func FuzzLex(f *testing.F) {
	for _, s := range []string{"", "f x=1 -- one", "->=>--\n_a'", "2147483648", "a-b", "\xff", strings.Repeat("a", 33)} {
		f.Add(s)
	}
	f.Fuzz(func(t *testing.T, s string) { look(t, s) })
}
