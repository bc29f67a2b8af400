package tape

import (
	"reflect"
	"slices"
	"testing"

	"simproof/api"
)

// spare returns a copy of a list with marked elements behind it, and the whole of its memory.
func spare[T any](list []T, mark T) ([]T, []T) {
	whole := append(slices.Clone(list), mark, mark)
	return whole[:len(list)], whole
}

// results returns the tapes that the functions make of a tape.
func results(x api.Tape) []api.Tape {
	decoded, _ := Decode(Encode(x))
	return []api.Tape{Normal(x), With(x, draw(1), 2), With(x, draw(0), 0), Without(x, nil), Without(x, []int{0}), Without(x, []int{3}), decoded}
}

// R4: tapes are not changed, and neither is the memory behind their lists. Results have memory of their own.
func TestTapesAreKept(t *testing.T) {
	for _, answers := range [][]api.Answer{
		give([2]int{0, 1}, [2]int{1, 1}, [2]int{2, 1}), // normal already
		give([2]int{2, 1}, [2]int{0, 3}, [2]int{1, 0}, [2]int{0, 1}),
	} {
		var x api.Tape
		var events []api.Event
		var list []api.Answer
		x.Events, events = spare(starts(3), api.Event{Kind: 99})
		x.Answers, list = spare(answers, api.Answer{N: 99})
		eventsBefore, listBefore := slices.Clone(events), slices.Clone(list)
		first := results(x)
		want := results(x)
		for _, y := range first {
			// Whatever shares memory with these changes now.
			for i := range y.Events {
				y.Events[i] = api.Event{Kind: -7}
			}
			for i := range y.Answers {
				y.Answers[i] = api.Answer{N: -7}
			}
			_ = append(y.Events, api.Event{Kind: -7})
			_ = append(y.Answers, api.Answer{N: -7})
		}
		Get(x, draw(1))
		Parts(x)
		Equal(x, api.Tape{Events: x.Events[:2], Answers: x.Answers[:1]})
		if !slices.Equal(events, eventsBefore) || !slices.Equal(list, listBefore) {
			t.Errorf("the lists are %v and %v", events, list)
		}
		if got := results(x); !reflect.DeepEqual(got, want) {
			t.Errorf("the results are %v, and were %v", got, want)
		}
	}
}

// R4: neither the parts nor the bytes nor the steps that are handed over are changed or kept.
func TestListsAreKept(t *testing.T) {
	x := api.Tape{Events: starts(3), Answers: give([2]int{0, 1})}
	parts, allParts := spare([]int{3, 1, 3}, 99)
	without := Without(x, parts)
	if !slices.Equal(allParts, []int{3, 1, 3, 99, 99}) || Parts(without) != 2 {
		t.Errorf("the parts are %d", allParts)
	}
	b, bytes := spare(Encode(x), 99)
	before := slices.Clone(bytes)
	got, err := Decode(b)
	if !slices.Equal(bytes, before) || err != api.OK {
		t.Errorf("the bytes are %d, error %d", bytes, err)
	}
	clear(bytes)
	if !same(got, x) {
		t.Errorf("the decoded tape is %v", got)
	}
	asks, allAsks := spare([]api.Ask{{Q: draw(2), Arity: 3, N: 2}, {Q: draw(1), Arity: 3, N: 1}}, api.Ask{N: 99})
	asksBefore := slices.Clone(allAsks)
	run, allSteps := spare([]api.Step{{Event: starts(1)[0], Asks: asks}}, api.Step{Observable: true})
	of := Of(run)
	if !slices.Equal(allAsks, asksBefore) || len(allSteps) != 3 || !reflect.DeepEqual(allSteps[1:], []api.Step{{Observable: true}, {Observable: true}}) {
		t.Errorf("the steps are %v", allSteps)
	}
	clear(allAsks)
	clear(allSteps)
	if !same(of, api.Tape{Events: starts(1), Answers: give([2]int{1, 1}, [2]int{2, 2})}) {
		t.Errorf("the tape of the run is %v", of)
	}
}

// R4: nil and empty lists are the same.
func TestEmptyLists(t *testing.T) {
	empty := api.Tape{Events: []api.Event{}, Answers: []api.Answer{}}
	for _, x := range []api.Tape{{}, empty} {
		for _, y := range append(results(x)[2:], Normal(x), Of(nil), Of([]api.Step{})) {
			if len(y.Events) > 0 || len(y.Answers) > 0 || !Equal(x, y) || !Equal(y, empty) {
				t.Errorf("%v is made of an empty tape", y)
			}
		}
	}
	if got := Of([]api.Step{{Asks: []api.Ask{}}}); !same(got, api.Tape{Events: []api.Event{{}}}) {
		t.Errorf("the tape of an empty step is %v", got)
	}
}

// R5: the results of a call are the same every time.
func TestResultsAreRepeated(t *testing.T) {
	x := large()
	x.Events, x.Answers = x.Events[:5], x.Answers[4900:5100]
	first, b := results(x), Encode(x)
	for range 20 {
		if !reflect.DeepEqual(results(x), first) || !slices.Equal(Encode(x), b) {
			t.Fatal("a result differs")
		}
	}
}
