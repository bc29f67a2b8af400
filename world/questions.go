package world

import (
	"slices"

	"simproof/api"
	"simproof/node"
)

// answering chooses one of the alternatives of a question.
type answering func(q api.Question, arity int) int

// inquiry answers the questions of an event, and records them.
type inquiry struct {
	by   answering
	asks []api.Ask
}

// under returns a function that asks the questions that have a cause.
func (y *inquiry) under(cause api.Cause) node.Ask {
	return func(kind, index, arity int) int {
		q := api.Question{Cause: cause, Kind: kind, Index: index}
		n := y.by(q, arity)
		y.asks = append(y.asks, api.Ask{Q: q, Arity: arity, N: n})
		return n
	}
}

// given answers the questions of one cause by a list of answers.
func given(answers []api.Answer) answering {
	var numbers map[api.Question]int
	return func(q api.Question, arity int) int {
		if numbers == nil {
			// A list can have many answers, almost all of which belong to other causes.
			numbers = numbersFor(q.Cause, answers)
		}
		return max(numbers[q], 0) % arity
	}
}

// numbersFor returns the last answers to the questions of a cause.
func numbersFor(cause api.Cause, answers []api.Answer) map[api.Question]int {
	numbers := map[api.Question]int{}
	for _, a := range answers {
		if a.Q.Cause == cause {
			numbers[a.Q] = a.N
		}
	}
	return numbers
}

// along answers questions in turn by the numbers of a path, and by 0 at its end.
func along(path []int) answering {
	asked := 0
	return func(api.Question, int) int {
		asked++
		if asked > len(path) {
			return 0
		}
		return path[asked-1]
	}
}

// nextPath returns the path that follows the one that was taken to some answers, and whether there is one: the last answer that can be increased is.
func nextPath(asks []api.Ask) ([]int, bool) {
	for i, a := range slices.Backward(asks) {
		if a.N+1 < a.Arity {
			var path []int
			for _, earlier := range asks[:i] {
				path = append(path, earlier.N)
			}
			return append(path, a.N+1), true
		}
	}
	return nil, false
}
