package chars_test

import (
	"bytes"
	"math"
	"regexp"
	"strconv"
	"strings"
	"testing"

	"fugue/api"
	"fugue/chars"
)

const (
	smalls   = "abcdefghijklmnopqrstuvwxyz"
	capitals = "ABCDEFGHIJKLMNOPQRSTUVWXYZ"
	decimals = "0123456789"
	signs    = smalls + capitals + decimals + "'_"
)

// P1.1: each byte at a name's beginning, and within it.
func TestNamesByEachByte(t *testing.T) {
	for i := range 256 {
		b := string([]byte{byte(i)})
		small, capital := strings.Contains(smalls, b), strings.Contains(capitals, b)
		if chars.Lower(b) != small || chars.Upper(b) != capital {
			t.Errorf("%q alone: lower %v, upper %v", b, chars.Lower(b), chars.Upper(b))
		}
		if chars.Lower(b+"a") != small || chars.Upper(b+"a") != capital {
			t.Errorf("%q first: lower %v, upper %v", b, chars.Lower(b+"a"), chars.Upper(b+"a"))
		}
		sign := strings.Contains(signs, b)
		for _, behind := range []string{b, b + "z", "z" + b} {
			if chars.Lower("x"+behind) != sign || chars.Upper("X"+behind) != sign {
				t.Errorf("%q within: lower %v, upper %v", b, chars.Lower("x"+behind), chars.Upper("X"+behind))
			}
		}
	}
}

// P1.1: the empty text, keys, and signs that only look like letters.
func TestNames(t *testing.T) {
	for _, x := range []struct {
		s            string
		lower, upper bool
	}{
		{"", false, false},
		{"a", true, false},
		{"z", true, false},
		{"A", false, true},
		{"Z", false, true},
		{"x'", true, false},
		{"x_1'Y", true, false},
		{"X_1'y", false, true},
		{"let", true, false},
		{"_", false, false},
		{"'", false, false},
		{"7", false, false},
		{"a b", false, false},
		{" a", false, false},
		{"a ", false, false},
		{"a\n", false, false},
		{"a@b", false, false},
		{"\u00e4", false, false},
		{"a\u00e4", false, false},
		{"A\u00c4", false, false},
		{"\u0391", false, false},
		{"a\uff41", false, false},
		{"a\ufffd", false, false},
		{"a\xe4", false, false},
		{"\xe4a", false, false},
	} {
		if lower, upper := chars.Lower(x.s), chars.Upper(x.s); lower != x.lower || upper != x.upper {
			t.Errorf("%q: lower %v, upper %v", x.s, lower, upper)
		}
	}
}

// P1.1: a name has at most MaxName signs.
func TestNamesByLength(t *testing.T) {
	for n := range 3 * api.MaxName {
		fits := 1 <= n && n <= api.MaxName
		if s := strings.Repeat("q", n); chars.Lower(s) != fits || chars.Upper(s) {
			t.Errorf("%d small signs: lower %v, upper %v", n, chars.Lower(s), chars.Upper(s))
		}
		if s := strings.Repeat("Q", n); chars.Upper(s) != fits || chars.Lower(s) {
			t.Errorf("%d capital signs: lower %v, upper %v", n, chars.Lower(s), chars.Upper(s))
		}
	}
}

// P1.1: the names of numbers.
func TestLetters(t *testing.T) {
	for _, x := range []struct {
		n    int
		name string
	}{
		{0, "a"}, {1, "b"}, {24, "y"}, {25, "z"}, {26, "a1"}, {27, "b1"}, {51, "z1"}, {52, "a2"},
		{259, "z9"}, {260, "a10"}, {2600, "a100"}, {math.MaxInt32, "x82595524"},
		{math.MaxInt64, "h354745078340568300"},
	} {
		if got := chars.Letters(x.n); got != x.name {
			t.Errorf("%d: %q, not %q", x.n, got, x.name)
		}
	}
	n := 0
	for round := range 50 {
		for _, r := range smalls {
			want := string(r)
			if round > 0 {
				want += strconv.Itoa(round)
			}
			if got := chars.Letters(n); got != want {
				t.Errorf("%d: %q, not %q", n, got, want)
			}
			n++
		}
	}
}

// R1: below 0 nothing is promised but that the call ends.
func TestLettersBelowZeroEnds(t *testing.T) {
	for _, n := range []int{-1, -26, -27, math.MinInt64} {
		chars.Letters(n)
	}
}

// P1.2: places below 0, beyond the end, at a byte 10, and behind one.
func TestPlace(t *testing.T) {
	for _, x := range []struct {
		src           string
		at, line, col int
	}{
		{"", -1, 1, 1}, {"", 0, 1, 1}, {"", 1, 1, 1}, {"", math.MaxInt64, 1, 1},
		{"abc", math.MinInt64, 1, 1}, {"abc", -1, 1, 1}, {"abc", 0, 1, 1}, {"abc", 2, 1, 3},
		{"abc", 3, 1, 4}, {"abc", 4, 1, 4}, {"abc", math.MaxInt64, 1, 4},
		{"ab\ncd\n", 1, 1, 2}, {"ab\ncd\n", 2, 1, 3}, {"ab\ncd\n", 3, 2, 1}, {"ab\ncd\n", 4, 2, 2},
		{"ab\ncd\n", 5, 2, 3}, {"ab\ncd\n", 6, 3, 1}, {"ab\ncd\n", 7, 3, 1},
		{"\n", 0, 1, 1}, {"\n", 1, 2, 1}, {"\n", 2, 2, 1},
		{"\n\n\nx", 2, 3, 1}, {"\n\n\nx", 3, 4, 1}, {"\n\n\nx", 4, 4, 2},
		{"a\r\nb", 2, 1, 3}, {"a\r\nb", 3, 2, 1}, {"a\rb", 2, 1, 3},
		{"\tx", 1, 1, 2}, {"\u00e4x", 1, 1, 2}, {"\u00e4x", 2, 1, 3}, {"\xff\xfe\n\xfd", 4, 2, 2},
	} {
		if line, col := chars.Place(x.src, x.at); line != x.line || col != x.col {
			t.Errorf("%q at %d: %d:%d, not %d:%d", x.src, x.at, line, col, x.line, x.col)
		}
	}
}

// P1.2: gone through byte by byte, as a reader's eye does it.
func TestPlaceByEachByte(t *testing.T) {
	src := "f x =\n  case x of {\n\n A -> \u00e4 -- one\n}\n\n"
	line, col := 1, 1
	for at := range len(src) {
		if l, c := chars.Place(src, at); l != line || c != col {
			t.Errorf("%d: %d:%d, not %d:%d", at, l, c, line, col)
		}
		if src[at] == '\n' {
			line, col = line+1, 1
		} else {
			col++
		}
	}
	if l, c := chars.Place(src, len(src)); l != line || c != col {
		t.Errorf("end: %d:%d, not %d:%d", l, c, line, col)
	}
}

// P1.3: each byte's print, alone and among others.
func TestPrintEachByte(t *testing.T) {
	for i := range 256 {
		s := string([]byte{byte(i)})
		want := s
		if !strings.Contains(smalls+capitals+decimals, s) {
			want = "'" + string("0123456789abcdef"[i/16]) + string("0123456789abcdef"[i%16])
		}
		if got := chars.Print(s); got != want {
			t.Errorf("%q: %q, not %q", s, got, want)
		}
		if got := chars.Print("a" + s + "9"); got != "a"+want+"9" {
			t.Errorf("%q within: %q", s, got)
		}
		if got, e := chars.Scan(want); got != s || e != api.OK {
			t.Errorf("%q is scanned as %q, %v", want, got, e)
		}
	}
}

// P1.3: the empty text, and such as look like prints.
func TestPrintAndScan(t *testing.T) {
	for _, x := range []struct{ s, print string }{
		{"", "_"}, {"_", "'5f"}, {"__", "'5f'5f"}, {"'", "'27"}, {"''", "'27'27"}, {"'5f", "'275f"},
		{"a-b", "a'2db"}, {"a b", "a'20b"}, {"\n", "'0a"}, {"aZ09", "aZ09"}, {"\x00", "'00"},
		{"\xff\xf0", "'ff'f0"}, {"\u00e4", "'c3'a4"}, {"@`[{/:", "'40'60'5b'7b'2f'3a"},
	} {
		if got := chars.Print(x.s); got != x.print {
			t.Errorf("%q: %q, not %q", x.s, got, x.print)
		}
		if got, e := chars.Scan(x.print); got != x.s || e != api.OK {
			t.Errorf("%q is scanned as %q, %v", x.print, got, e)
		}
	}
}

// P1.3: texts that are no print of any text.
func TestScanRefuses(t *testing.T) {
	for _, s := range []string{
		"", " ", "a b", "\n", "a\n", "-", "a-b", "\x00", "\xff", "\u00e4", "a\u00e4",
		"_a", "a_", "__", "_'20", "'20_",
		"'", "a'", "''", "'2", "a'2", "'20'", "'20'2", "'2'20",
		"'2D", "'FF", "'fF", "'g0", "'0g", "'+1", "'-1", "' 1", "'0x", "'_0", "'0_",
		"'41", "'5a", "'61", "'7a", "'30", "'39", "'20'41", "a'61", "ok'",
	} {
		if got, e := chars.Scan(s); got != "" || e != api.ErrSyntax {
			t.Errorf("%q is scanned as %q, %v", s, got, e)
		}
	}
}

var (
	wholePrint  = regexp.MustCompile(`\A(_|([0-9A-Za-z]|'[0-9a-f][0-9a-f])+)\z`)
	printedByte = regexp.MustCompile(`'[0-9a-f][0-9a-f]`)
)

// isPrint says by the document's words, without Print, which texts are prints.
func isPrint(s string) bool {
	if !wholePrint.MatchString(s) {
		return false
	}
	for _, piece := range printedByte.FindAllString(s, -1) {
		n, err := strconv.ParseUint(piece[1:], 16, 8)
		if err != nil || strings.Contains(smalls+capitals+decimals, string([]byte{byte(n)})) {
			return false
		}
	}
	return true
}

// each tells f all texts of some bytes up to a length.
func each(bytes string, most int, f func(s string)) {
	var more func(s string)
	more = func(s string) {
		f(s)
		if len(s) < most {
			for i := range len(bytes) {
				more(s + bytes[i:i+1])
			}
		}
	}
	more("")
}

// P1.3: all short texts are scanned, or refused, as the words say; what is scanned is printed so.
func TestScanAllShort(t *testing.T) {
	each("'_a26fFg \xff", 4, func(s string) {
		got, e := chars.Scan(s)
		switch {
		case !isPrint(s):
			if got != "" || e != api.ErrSyntax {
				t.Errorf("%q is no print, but is scanned as %q, %v", s, got, e)
			}
		case e != api.OK || chars.Print(got) != s:
			t.Errorf("%q is scanned as %q, %v", s, got, e)
		}
	})
}

// P1.4: what is printed is scanned as it was, and no two texts have one print.
func TestPrintsAreApart(t *testing.T) {
	seen := map[string]string{}
	look := func(s string) {
		p := chars.Print(s)
		if got, e := chars.Scan(p); got != s || e != api.OK {
			t.Errorf("%q is printed %q, and scanned as %q, %v", s, p, got, e)
		}
		if !isPrint(p) {
			t.Errorf("%q is printed %q", s, p)
		}
		if other, ok := seen[p]; ok && other != s {
			t.Errorf("%q and %q are both printed %q", s, other, p)
		}
		seen[p] = s
	}
	each("'_a20d- \n\xff", 4, look)
	var all bytes.Buffer
	for i := range 256 {
		for k := range 256 {
			look(string([]byte{byte(i), byte(k)}))
		}
		all.WriteByte(byte(i))
	}
	look(all.String())
	look(strings.Repeat(all.String(), 100))
}

// P1.4: no two numbers have one name, and each name is a lower one.
func TestLettersAreApart(t *testing.T) {
	seen := map[string]int{}
	look := func(n int) {
		s := chars.Letters(n)
		if !chars.Lower(s) || len(s) > api.MaxName {
			t.Errorf("%d: %q is no lower name", n, s)
		}
		if other, ok := seen[s]; ok {
			t.Errorf("%d and %d are both %q", n, other, s)
		}
		seen[s] = n
	}
	for n := range 20000 {
		look(n)
		look(math.MaxInt64 - n)
	}
}

// P1.3, P1.4: of any bytes whatever.
func FuzzPrint(f *testing.F) {
	for _, s := range []string{"", "_", "'", "a-b", "'2d", "'41", "\x00\xff"} {
		f.Add(s)
	}
	f.Fuzz(func(t *testing.T, s string) {
		if got, e := chars.Scan(chars.Print(s)); got != s || e != api.OK {
			t.Errorf("%q comes back as %q, %v", s, got, e)
		}
		got, e := chars.Scan(s)
		if (e == api.OK) != isPrint(s) || e == api.OK && chars.Print(got) != s || e != api.OK && (e != api.ErrSyntax || got != "") {
			t.Errorf("%q is scanned as %q, %v", s, got, e)
		}
	})
}
