package names

import (
	"strconv"
	"strings"

	"simproof/api"
)

// mostNumbers is how many numbers a text form has at most.
const mostNumbers = 6

// parse returns the value that has a text. The guess is right if there is such a value; if there is none, any guess does, because its text is another one.
func parse[T any](s string, guess func(string) T, text func(T) string) (T, api.Errno) {
	v := guess(s)
	if s == "" || text(v) != s {
		var zero T
		return zero, api.ErrForm
	}
	return v, api.OK
}

// guessEvent returns the only event that can have a text.
func guessEvent(s string) api.Event {
	word, n := split(s)
	for kind := api.EvStart; kind <= api.EvCrash; kind++ {
		if l := layoutOf(kind); l.word == word {
			m := api.Msg{Cause: api.Cause{Node: n[1], Handler: n[2], Count: n[3]}, Index: n[4], Copy: n[5]}
			return l.written(api.Event{Kind: kind, Node: n[0], Arg: n[1], Msg: m})
		}
	}
	return api.Event{}
}

// guessQuestion returns the only question that can have a text.
func guessQuestion(s string) api.Question {
	word, n := split(s)
	for kind := api.QDraw; kind <= api.QKeep; kind++ {
		if questionWord(kind) == word {
			return api.Question{Cause: api.Cause{Node: n[0], Handler: n[1], Count: n[2]}, Kind: kind, Index: n[3]}
		}
	}
	return api.Question{}
}

// split returns the first word of a text and the numbers in the rest. Where there is no number, it returns some number.
func split(s string) (string, [mostNumbers]int) {
	word, rest, _ := strings.Cut(s, " ")
	rest = strings.ReplaceAll(rest, " ", ".")
	var numbers [mostNumbers]int
	for i := range numbers {
		var text string
		text, rest, _ = strings.Cut(rest, ".")
		numbers[i], _ = strconv.Atoi(text)
	}
	return word, numbers
}
