package lexer

import (
	"slices"
	"strings"
	"testing"

	"simproof/api"
)

// These make the tokens of the tests short.
func word(at int, text string) Token          { return Token{Kind: Word, At: at, Text: text} }
func number(at int, text string, n int) Token { return Token{Kind: Number, At: at, Text: text, N: n} }
func symbol(at int, text string) Token        { return Token{Kind: Symbol, At: at, Text: text} }
func end(at int) Token                        { return Token{Kind: End, At: at} }

// checkTokens fails the test unless a source has these tokens.
func checkTokens(t *testing.T, source string, want ...Token) {
	t.Helper()
	if got, at, e := Tokens(source); !slices.Equal(got, want) || at != 0 || e != api.OK {
		t.Errorf("the tokens of %q: %v, %d, %v, want %v", source, got, at, e, want)
	}
}

// checkError fails the test unless a source has this error.
func checkError(t *testing.T, source string, wantAt int, want api.Errno) {
	t.Helper()
	if got, at, e := Tokens(source); got != nil || at != wantAt || e != want {
		t.Errorf("the error of %q: %v, %d, %v, want %d, %v", source, got, at, e, wantAt, want)
	}
}

func TestKinds(t *testing.T) {
	if End != 0 || Word != 1 || Number != 2 || Symbol != 3 {
		t.Errorf("the kinds are %d, %d, %d and %d", End, Word, Number, Symbol)
	}
}

// P5.1: the example of the chapter, and sources of several tokens.
func TestTokens(t *testing.T) {
	checkTokens(t, "a1<=20 # x", word(0, "a1"), symbol(2, "<="), number(4, "20", 20), end(10))
	checkTokens(t, "on start{x=1;}", word(0, "on"), word(3, "start"), symbol(8, "{"), word(9, "x"), symbol(10, "="), number(11, "1", 1), symbol(12, ";"), symbol(13, "}"), end(14))
	checkTokens(t, "always v0 < 3", word(0, "always"), word(7, "v0"), symbol(10, "<"), number(12, "3", 3), end(13))
	checkTokens(t, "-1 - -2", symbol(0, "-"), number(1, "1", 1), symbol(3, "-"), symbol(5, "-"), number(6, "2", 2), end(7))
}

// P5.1: the end is a token, whatever comes before it.
func TestEnd(t *testing.T) {
	for _, source := range []string{"", " ", "\t", "\n", "#", "#\n", "# no token", "\n# \t\n\n  #", "## # #\n#\n"} {
		checkTokens(t, source, end(len(source)))
	}
	checkTokens(t, "x", word(0, "x"), end(1))
	checkTokens(t, "x \n", word(0, "x"), end(3))
	checkTokens(t, "x#\n", word(0, "x"), end(3))
}

// P5.1: blanks, tabs, newlines and comments separate tokens.
func TestWhiteSpace(t *testing.T) {
	checkTokens(t, "a b", word(0, "a"), word(2, "b"), end(3))
	checkTokens(t, "a\tb", word(0, "a"), word(2, "b"), end(3))
	checkTokens(t, "a\nb", word(0, "a"), word(2, "b"), end(3))
	checkTokens(t, "a#\nb", word(0, "a"), word(3, "b"), end(4))
	checkTokens(t, "a # b\n\t c # d", word(0, "a"), word(8, "c"), end(13))
	checkTokens(t, "1# 2 # 3\n4", number(0, "1", 1), number(9, "4", 4), end(10))
	checkTokens(t, "= =", symbol(0, "="), symbol(2, "="), end(3))
	checkTokens(t, "<#\n=", symbol(0, "<"), symbol(3, "="), end(4))
	checkTokens(t, "1 2", number(0, "1", 1), number(2, "2", 2), end(3))
}

// P5.1: a comment may contain any byte but a newline.
func TestComments(t *testing.T) {
	for b := range 256 {
		if b == '\n' {
			continue
		}
		source := "x#" + string([]byte{byte(b), '1', byte(b)})
		checkTokens(t, source, word(0, "x"), end(5))
		checkTokens(t, source+"\n+", word(0, "x"), symbol(6, "+"), end(7))
	}
	checkTokens(t, "#|&A 99999999999 abcdefghijkl\ny", word(30, "y"), end(31))
}

// P5.1: words are as long as possible, and begin with a letter.
func TestWords(t *testing.T) {
	for _, text := range []string{"a", "z", "m", "az", "a0", "z9", "v15", "x1y2z3", "abcdefghij", "klmnopqrst", "uvwxyz", "a123456789", "a0b1c2d3e4"} {
		checkTokens(t, text, word(0, text), end(len(text)))
		checkTokens(t, "("+text+")", symbol(0, "("), word(1, text), symbol(1+len(text), ")"), end(len(text)+2))
	}
	checkTokens(t, "abcdefghij abcdefghij", word(0, "abcdefghij"), word(11, "abcdefghij"), end(21))
	checkTokens(t, "12ab", number(0, "12", 12), word(2, "ab"), end(4))
	checkTokens(t, "1a2", number(0, "1", 1), word(1, "a2"), end(3))
}

// P5.1: the values of numbers, zeros before them included.
func TestNumbers(t *testing.T) {
	for _, c := range []struct {
		text string
		n    int
	}{
		{"0", 0},
		{"7", 7},
		{"9", 9},
		{"10", 10},
		{"1234567890", 1234567890},
		{"00", 0},
		{"007", 7},
		{"010", 10},
		{"2147483646", 2147483646},
		{"2147483647", 2147483647},
		{"00000000000000002147483647", 2147483647},
		{strings.Repeat("0", 1000), 0},
		{strings.Repeat("0", 1000) + "45", 45},
	} {
		checkTokens(t, c.text, number(0, c.text, c.n), end(len(c.text)))
		checkTokens(t, "x "+c.text+";", word(0, "x"), number(2, c.text, c.n), symbol(2+len(c.text), ";"), end(3+len(c.text)))
	}
}

// P5.1: every symbol, on its own and before others.
func TestSymbols(t *testing.T) {
	for _, text := range strings.Fields("|| && <= >= == != { } [ ] ( ) = ; , < > + - * / !") {
		size := len(text)
		checkTokens(t, text, symbol(0, text), end(size))
		checkTokens(t, "x"+text+"1", word(0, "x"), symbol(1, text), number(1+size, "1", 1), end(2+size))
		checkTokens(t, text+"{", symbol(0, text), symbol(size, "{"), end(size+1))
		checkTokens(t, text+" "+text, symbol(0, text), symbol(size+1, text), end(2*size+1))
	}
}

// P5.1: symbols are as long as possible, from left to right.
func TestLongestSymbols(t *testing.T) {
	checkTokens(t, "===", symbol(0, "=="), symbol(2, "="), end(3))
	checkTokens(t, "====", symbol(0, "=="), symbol(2, "=="), end(4))
	checkTokens(t, "!==", symbol(0, "!="), symbol(2, "="), end(3))
	checkTokens(t, "!!=", symbol(0, "!"), symbol(1, "!="), end(3))
	checkTokens(t, "<==", symbol(0, "<="), symbol(2, "="), end(3))
	checkTokens(t, ">=>", symbol(0, ">="), symbol(2, ">"), end(3))
	checkTokens(t, "=<", symbol(0, "="), symbol(1, "<"), end(2))
	checkTokens(t, "=!=", symbol(0, "="), symbol(1, "!="), end(3))
	checkTokens(t, "<<>>", symbol(0, "<"), symbol(1, "<"), symbol(2, ">"), symbol(3, ">"), end(4))
	checkTokens(t, "||||", symbol(0, "||"), symbol(2, "||"), end(4))
	checkTokens(t, "&&||&&", symbol(0, "&&"), symbol(2, "||"), symbol(4, "&&"), end(6))
	checkTokens(t, "+=", symbol(0, "+"), symbol(1, "="), end(2))
	checkTokens(t, "--", symbol(0, "-"), symbol(1, "-"), end(2))
	checkTokens(t, "//", symbol(0, "/"), symbol(1, "/"), end(2))
}

// P5.2: words of more than 10 bytes.
func TestLongWords(t *testing.T) {
	checkError(t, "abcdefghijk", 0, api.ErrLimit)
	checkError(t, "a1234567890", 0, api.ErrLimit)
	checkError(t, "a12345678901234567890", 0, api.ErrLimit)
	checkError(t, "(abcdefghijk", 1, api.ErrLimit)
	checkError(t, "abcdefghij # x\n 1zyxwvutsrqp", 17, api.ErrLimit)
}

// P5.2: numbers greater than 2^31 - 1.
func TestGreatNumbers(t *testing.T) {
	checkError(t, "2147483648", 0, api.ErrRange)
	checkError(t, "1+2147483648", 2, api.ErrRange)
	checkError(t, "4294967296", 0, api.ErrRange)
	checkError(t, "02147483648", 0, api.ErrRange)
	checkError(t, "21474836470", 0, api.ErrRange)
	// 2^63 - 1, 2^63, 2^64 and 2^64 + 5: the last ones lose bits as an int.
	checkError(t, "x 9223372036854775807", 2, api.ErrRange)
	checkError(t, "x 9223372036854775808", 2, api.ErrRange)
	checkError(t, "x 18446744073709551616", 2, api.ErrRange)
	checkError(t, "x 18446744073709551621", 2, api.ErrRange)
	checkError(t, "-99999999999999999999999999999999999999999", 1, api.ErrRange)
	checkError(t, "3 99999999999a", 2, api.ErrRange)
}

// P5.2: every byte with which no token begins, at the beginning, after a token, and before one.
func TestOtherBytes(t *testing.T) {
	for b := range 256 {
		if b < 128 && strings.ContainsRune("abcdefghijklmnopqrstuvwxyz0123456789{}[]()=;,<>+-*/! \t\n#", rune(b)) {
			continue
		}
		bad := string([]byte{byte(b)})
		checkError(t, bad, 0, api.ErrSyntax)
		checkError(t, "x"+bad, 1, api.ErrSyntax)
		checkError(t, "7 "+bad+"y", 2, api.ErrSyntax)
		checkError(t, "# "+bad+"\n<"+bad, 5, api.ErrSyntax)
	}
	checkError(t, "a\r\nb", 1, api.ErrSyntax)
	checkError(t, "x \u00e9", 2, api.ErrSyntax)
	checkError(t, "\u00a0", 0, api.ErrSyntax)
}

// P5.2: a single | or &.
func TestSingleBars(t *testing.T) {
	checkError(t, "|", 0, api.ErrSyntax)
	checkError(t, "&", 0, api.ErrSyntax)
	checkError(t, "a|b", 1, api.ErrSyntax)
	checkError(t, "a & b", 2, api.ErrSyntax)
	checkError(t, "|&", 0, api.ErrSyntax)
	checkError(t, "&|", 0, api.ErrSyntax)
	checkError(t, "|=", 0, api.ErrSyntax)
	checkError(t, "&=", 0, api.ErrSyntax)
	checkError(t, "| |", 0, api.ErrSyntax)
	checkError(t, "&#\n&", 0, api.ErrSyntax)
	checkError(t, "|||", 2, api.ErrSyntax)
	checkError(t, "&&&", 2, api.ErrSyntax)
	checkError(t, "||&||", 2, api.ErrSyntax)
}

// P5.2: the first one of several errors.
func TestFirstError(t *testing.T) {
	checkError(t, "$ abcdefghijk 2147483648", 0, api.ErrSyntax)
	checkError(t, "abcdefghijk $ 2147483648", 0, api.ErrLimit)
	checkError(t, "99999999999999999999 $", 0, api.ErrRange)
	checkError(t, "x 2147483648 abcdefghijk", 2, api.ErrRange)
	// The error of a long token lies at its first byte, before the one that ends it.
	checkError(t, "abcdefghijk$", 0, api.ErrLimit)
	checkError(t, "2147483648|", 0, api.ErrRange)
	checkError(t, "2147483648abcdefghijk", 0, api.ErrRange)
	checkError(t, "1abcdefghijk", 1, api.ErrLimit)
}

// R1: sources of a million bytes.
func TestLongSources(t *testing.T) {
	const n = 1 << 20
	checkError(t, strings.Repeat("z", n), 0, api.ErrLimit)
	checkError(t, strings.Repeat("9", n), 0, api.ErrRange)
	checkError(t, strings.Repeat(" ", n)+"\x00", n, api.ErrSyntax)
	checkError(t, strings.Repeat("|", n+1), n, api.ErrSyntax)
	checkTokens(t, strings.Repeat("#", n), end(n))
	checkTokens(t, strings.Repeat("\n", n), end(n))
	zeros := strings.Repeat("0", n)
	checkTokens(t, zeros, number(0, zeros, 0), end(n))
	got, at, e := Tokens(strings.Repeat("a#\n", n))
	if len(got) != n+1 || at != 0 || e != api.OK {
		t.Fatalf("of %d words: %d tokens, %d, %v", n, len(got), at, e)
	}
	for i, token := range got[:n] {
		if token != word(3*i, "a") {
			t.Fatalf("the word %d: %v", i, token)
		}
	}
	if got[n] != end(3*n) {
		t.Errorf("the last token: %v", got[n])
	}
}

// R4 and R5: a result does not change by writes to earlier ones, nor by calls in between.
func TestResultsAreNew(t *testing.T) {
	const source = "x = 1; # y"
	for range 2 {
		first, _, _ := Tokens(source)
		checkError(t, source+"\n$", 11, api.ErrSyntax)
		second, _, _ := Tokens(source)
		clear(first[:cap(first)])
		want := []Token{word(0, "x"), symbol(2, "="), number(4, "1", 1), symbol(5, ";"), end(10)}
		if !slices.Equal(second, want) {
			t.Fatalf("the tokens after a write to others: %v", second)
		}
	}
}

// The iterator yields nothing after an error, and can be left at any token.
func TestScan(t *testing.T) {
	var kinds []int
	for token, e := range scan("a 1 | b") {
		if e != api.OK {
			kinds = append(kinds, -int(e))
			continue
		}
		kinds = append(kinds, token.Kind)
	}
	if want := []int{Word, Number, -int(api.ErrSyntax)}; !slices.Equal(kinds, want) {
		t.Errorf("the kinds and errors are %d, want %d", kinds, want)
	}
	for stop := range 4 {
		count := 0
		for range scan("a 1 +") {
			if count == stop {
				break
			}
			count++
		}
		if count != stop {
			t.Errorf("left after %d tokens, want %d", count, stop)
		}
	}
}
