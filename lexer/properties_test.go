package lexer

import (
	"math/big"
	"math/rand"
	"regexp"
	"slices"
	"strings"
	"testing"

	"simproof/api"
)

// longest returns an expression that matches as many bytes as possible at the beginning of a source.
func longest(pattern string) *regexp.Regexp {
	e := regexp.MustCompile(`\A(?:` + pattern + `)`)
	e.Longest()
	return e
}

// The definitions of the chapter.
var (
	spaceForm  = longest(`([ \t\n]|#[^\n]*(\n|\z))*`)
	wordForm   = longest(`[a-z][a-z0-9]*`)
	numberForm = longest(`[0-9]+`)
	symbolForm = longest(`\|\||&&|<=|>=|==|!=|\{|\}|\[|\]|\(|\)|=|;|,|<|>|\+|-|\*|/|!`)
)

// result is what Tokens returns.
type result struct {
	list []Token
	at   int
	e    api.Errno
}

func (r result) equal(s result) bool {
	return slices.Equal(r.list, s.list) && r.at == s.at && r.e == s.e
}

// tokens returns the result of Tokens.
func tokens(source string) result {
	list, at, e := Tokens(source)
	return result{list, at, e}
}

// definedTokens returns the result that follows from the definitions.
func definedTokens(source string) result {
	var list []Token
	at := 0
	for {
		at += len(spaceForm.FindString(source[at:]))
		rest := source[at:]
		switch {
		case rest == "":
			return result{append(list, end(at)), 0, api.OK}
		case wordForm.MatchString(rest):
			text := wordForm.FindString(rest)
			if len(text) > 10 {
				return result{nil, at, api.ErrLimit}
			}
			list = append(list, word(at, text))
		case numberForm.MatchString(rest):
			text := numberForm.FindString(rest)
			n, _ := new(big.Int).SetString(text, 10)
			if n.Cmp(big.NewInt(1<<31-1)) > 0 {
				return result{nil, at, api.ErrRange}
			}
			list = append(list, number(at, text, int(n.Int64())))
		case symbolForm.MatchString(rest):
			list = append(list, symbol(at, symbolForm.FindString(rest)))
		default:
			return result{nil, at, api.ErrSyntax}
		}
		at += len(list[len(list)-1].Text)
	}
}

// checkDefined compares the result of Tokens with the definitions.
func checkDefined(t *testing.T, source string) {
	t.Helper()
	if got, want := tokens(source), definedTokens(source); !got.equal(want) {
		t.Fatalf("the tokens of %q: %v, want %v", source, got, want)
	}
}

// P5.1 and P5.2: all sources of at most two bytes.
func TestAllPairsOfBytes(t *testing.T) {
	checkDefined(t, "")
	for a := range 256 {
		checkDefined(t, string([]byte{byte(a)}))
		for b := range 256 {
			checkDefined(t, string([]byte{byte(a), byte(b)}))
		}
	}
}

// P5.1 and P5.2: all sources of at most five bytes that each stand for others.
func TestAllShortSources(t *testing.T) {
	var extend func(source string)
	extend = func(source string) {
		checkDefined(t, source)
		if len(source) == 5 {
			return
		}
		for _, b := range "a1 #\n=!|&(" {
			extend(source + string(b))
		}
	}
	extend("")
}

// someOf returns a random element.
func someOf[T any](r *rand.Rand, l []T) T { return l[r.Intn(len(l))] }

// someText returns a random text of some letters, from least to most of them.
func someText(r *rand.Rand, letters string, least, most int) string {
	var b strings.Builder
	for range least + r.Intn(most-least+1) {
		b.WriteByte(letters[r.Intn(len(letters))])
	}
	return b.String()
}

// someToken returns a random token at offset 0.
func someToken(r *rand.Rand) Token {
	switch r.Intn(3) {
	case 0:
		return word(0, someText(r, "abcxyz", 1, 1)+someText(r, "abyz0189", 0, 9))
	case 1:
		zeros, n := someText(r, "0", 0, 2), big.NewInt(int64(r.Uint32()>>1>>r.Intn(31)))
		return number(0, zeros+n.String(), int(n.Int64()))
	}
	return symbol(0, someOf(r, strings.Fields("|| && <= >= == != { } [ ] ( ) = ; , < > + - * / !")))
}

// someSpace returns random white space that is not empty, each comment with the newline that ends it.
func someSpace(r *rand.Rand) string {
	space := ""
	for range 1 + r.Intn(3) {
		space += someOf(r, []string{" ", "\t", "\n", "  ", "#\n", "# x|\xff\n", "#" + someText(r, "az09=| #\t$", 0, 9) + "\n"})
	}
	return space
}

// spread returns a source of some tokens with random white space around them, and the tokens with their offsets, the end included.
func spread(r *rand.Rand, list []Token) (string, []Token) {
	source := ""
	var placed []Token
	for i, token := range list {
		if i > 0 || r.Intn(2) == 0 {
			source += someSpace(r)
		}
		token.At = len(source)
		placed = append(placed, token)
		source += token.Text
	}
	if r.Intn(2) == 0 {
		source += someSpace(r)
	}
	return source, append(placed, end(len(source)))
}

// P5.3: other white space between the tokens changes nothing but offsets.
func TestOtherWhiteSpace(t *testing.T) {
	r := rand.New(rand.NewSource(1))
	for range 5000 {
		list := make([]Token, r.Intn(12))
		for i := range list {
			list[i] = someToken(r)
		}
		for range 3 {
			source, want := spread(r, list)
			checkTokens(t, source, want...)
		}
	}
}

// someSource returns a random source, which may have errors.
func someSource(r *rand.Rand) string {
	source := ""
	for range r.Intn(9) {
		switch r.Intn(12) {
		case 0:
			source += someText(r, "az09|&=<#\n$\xc3", 1, 4)
		case 1:
			source += someText(r, "az09", 8, 14)
		case 2, 3, 4, 5:
			source += someSpace(r)
		default:
			source += someToken(r).Text
		}
	}
	// A comment may be open at the end.
	if r.Intn(4) == 0 {
		source += "#" + someText(r, "az09=| #", 0, 3)
	}
	return source
}

// P5.3: offsets increase, texts are found there, and nothing but white space lies between.
func TestOffsetsAndTexts(t *testing.T) {
	r := rand.New(rand.NewSource(2))
	found := 0
	for range 30000 {
		source := someSource(r)
		checkDefined(t, source)
		list, _, e := Tokens(source)
		if e != api.OK {
			continue
		}
		found++
		from := 0
		for i, token := range list {
			if i > 0 && token.At <= list[i-1].At {
				t.Fatalf("the offsets of %q do not increase: %v", source, list)
			}
			if !strings.HasPrefix(source[token.At:], token.Text) {
				t.Fatalf("a text of %q is not at its offset: %v", source, token)
			}
			if between := source[from:token.At]; spaceForm.FindString(between) != between {
				t.Fatalf("%q lies between tokens of %q", between, source)
			}
			from = token.At + len(token.Text)
		}
		if from != len(source) {
			t.Fatalf("the tokens of %q end at %d", source, from)
		}
	}
	if found < 10000 {
		t.Errorf("only %d sources had no error", found)
	}
}

// joined returns the result of two sources with a newline in between, from their results and the length of the first one.
func joined(a, b result, length int) result {
	if a.e != api.OK {
		return a
	}
	if b.e != api.OK {
		return result{nil, b.at + length + 1, b.e}
	}
	list := slices.Clone(a.list[:len(a.list)-1])
	for _, token := range b.list {
		token.At += length + 1
		list = append(list, token)
	}
	return result{list, 0, api.OK}
}

// P5.4: the tokens of two sources with a newline in between.
func TestConcatenation(t *testing.T) {
	r := rand.New(rand.NewSource(3))
	seen := map[[2]bool]int{} // by whether the first and the second one have errors
	for range 30000 {
		a, b := someSource(r), someSource(r)
		first, second := tokens(a), tokens(b)
		if got, want := tokens(a+"\n"+b), joined(first, second, len(a)); !got.equal(want) {
			t.Fatalf("the tokens of %q and %q: %v, want %v", a, b, got, want)
		}
		seen[[2]bool{first.e != api.OK, second.e != api.OK}]++
	}
	for _, errors := range [][2]bool{{false, false}, {false, true}, {true, false}, {true, true}} {
		if seen[errors] < 1000 {
			t.Errorf("errors %t: only %d pairs", errors, seen[errors])
		}
	}
}
