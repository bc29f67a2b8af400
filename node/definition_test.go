package node

import (
	"fmt"
	"slices"
	"testing"

	"simproof/api"
	"simproof/compile"
	"simproof/vm"
)

// text returns a value as a text, in which nil and empty lists are the same.
func text(x any) string { return fmt.Sprintf("%+v", x) }

// script answers questions in turn, from the beginning again when there are no more answers, and records the questions.
type script struct {
	answers []int
	asked   [][3]int // kinds, indices and arities
}

// ask answers a question.
func (s *script) ask(kind, index, arity int) int {
	s.asked = append(s.asked, [3]int{kind, index, arity})
	if len(s.answers) == 0 {
		return 0
	}
	return s.answers[(len(s.asked)-1)%len(s.answers)] % arity
}

// place is where a handler is executed.
type place struct{ self, nodes, drift int }

// built returns the program of a source, which must be valid.
func built(t *testing.T, source string) api.Program {
	t.Helper()
	p, e := compile.Build(source)
	if e != api.OK {
		t.Fatalf("no program: %q: %v", source, e)
	}
	return p
}

// definedVars returns the values of all variables.
func definedVars(s api.NodeState) []int {
	vars := slices.Clone(s.Disk.Cells)
	for _, w := range s.Disk.Pending {
		vars[w.Var] = w.Value
	}
	return slices.Concat(vars, s.Volatile)
}

// definedStart returns what the chapter tells about a start.
func definedStart(s api.NodeState, p api.Program, version int, at place, ask Ask) (api.NodeState, Result) {
	cells := definedVars(s)[:len(s.Disk.Cells)]
	s.Up, s.Version, s.Waiting, s.Timers = true, version, -1, nil
	s.Disk = api.Disk{Cells: slices.Concat(cells, make([]int, 16))[:p.Durable]}
	s.Volatile = make([]int, p.Volatile)
	return defined(s, p, 0, at, vm.Input{}, ask)
}

// defined returns what the chapter tells about an execution, computed from all its actions at once.
func defined(s api.NodeState, p api.Program, handler int, at place, in vm.Input, ask Ask) (api.NodeState, Result) {
	r := Result{Cause: api.Cause{Node: at.self, Handler: handler, Count: s.Counts[handler]}}
	s.Clock++
	if at.drift > 0 {
		s.Clock += ask(api.QTick, 0, at.drift+1)
	}
	in.Vars = definedVars(s)
	in.Names[api.NameSelf], in.Names[api.NameNodes], in.Names[api.NameNow] = at.self, at.nodes, s.Clock
	r.Out = vm.Run(p, handler, in, func(index, arity int) int { return ask(api.QDraw, index, arity) })
	s.Counts[handler]++
	s.Volatile = r.Out.Vars[p.Durable:]
	s.Disk = definedDisk(s.Disk, r.Out.Acts)
	s.Timers = definedTimers(s.Timers, r.Out.Acts)
	for _, a := range ofKind(r.Out.Acts, api.ActSend) {
		r.Sent = append(r.Sent, api.Envelope{Msg: api.Msg{Cause: r.Cause, Index: len(r.Sent)}, To: a.A, Kind: a.B, A: a.C, B: a.D})
	}
	for _, a := range ofKind(r.Out.Acts, api.ActFail) {
		r.Failures = append(r.Failures, a.A)
	}
	replies := ofKind(r.Out.Acts, api.ActReply)
	if first := slices.IndexFunc(replies, func(a api.Act) bool { return a.A == s.Waiting }); s.Waiting >= 0 && first >= 0 {
		r.Replied, r.Value, s.Waiting = true, replies[first].B, -1
	}
	return s, r
}

// ofKind returns the actions of a kind.
func ofKind(acts []api.Act, kind int) []api.Act {
	return slices.DeleteFunc(slices.Clone(acts), func(a api.Act) bool { return a.Kind != kind })
}

// definedDisk returns a disk after actions: a write is permanent if a sync or MaxPending other writes came after it.
func definedDisk(d api.Disk, acts []api.Act) api.Disk {
	log := slices.Clone(d.Pending)
	permanent := 0
	for _, a := range acts {
		switch a.Kind {
		case api.ActWrite:
			log = append(log, api.Write{Var: a.A, Value: a.B})
		case api.ActSync:
			permanent = len(log)
		}
	}
	permanent = max(permanent, len(log)-4)
	return api.Disk{Cells: definedVars(api.NodeState{Disk: api.Disk{Cells: d.Cells, Pending: log[:permanent]}}), Pending: log[permanent:]}
}

// definedTimers returns the timers after actions: the last action on each timer counts.
func definedTimers(timers []int, acts []api.Act) []int {
	var set []int
	for k := range 8 {
		is := slices.Contains(timers, k)
		for _, a := range acts {
			if a.A == k && (a.Kind == api.ActTimer || a.Kind == api.ActCancel) {
				is = a.Kind == api.ActTimer
			}
		}
		if is {
			set = append(set, k)
		}
	}
	return set
}

// definedCrash returns what the chapter tells about a crash.
func definedCrash(s api.NodeState, ask Ask) api.NodeState {
	var kept []api.Write
	for i, w := range s.Disk.Pending {
		if ask(api.QKeep, i, 2) == 1 {
			kept = append(kept, w)
		}
	}
	s.Disk = api.Disk{Cells: definedVars(api.NodeState{Disk: api.Disk{Cells: s.Disk.Cells, Pending: kept}})}
	s.Volatile = make([]int, len(s.Volatile))
	s.Timers, s.Waiting, s.Up = nil, -1, false
	s.Counts[40]++
	s.Epoch++
	return s
}

// checkSame fails the test unless two values are the same.
func checkSame(t *testing.T, what string, got, want any) {
	t.Helper()
	if g, w := text(got), text(want); g != w {
		t.Fatalf("%s:\n%s\nwant:\n%s", what, g, w)
	}
}

// checkState fails the test unless a state has the values of variables, and the order of timers, that all states have.
func checkState(t *testing.T, s api.NodeState) {
	t.Helper()
	checkSame(t, "the variables", Vars(s), definedVars(s))
	if !slices.IsSorted(s.Timers) || len(slices.Compact(slices.Clone(s.Timers))) != len(s.Timers) || len(s.Disk.Pending) > 4 {
		t.Fatalf("the state is %+v", s)
	}
}

// checkStart starts a node and compares the results with the definition, which it returns.
func checkStart(t *testing.T, s api.NodeState, p api.Program, version int, at place, answers ...int) (api.NodeState, Result) {
	t.Helper()
	before := text(s)
	got, want := script{answers: answers}, script{answers: answers}
	after, result := Start(s, p, version, at.self, at.nodes, at.drift, got.ask)
	wantAfter, wantResult := definedStart(s, p, version, at, want.ask)
	checkSame(t, "the state after the start", after, wantAfter)
	checkSame(t, "the result of the start", result, wantResult)
	checkSame(t, "the questions of the start", got.asked, want.asked)
	checkSame(t, "the state before the start", text(s), before)
	checkState(t, after)
	return after, result
}

// checkHandle executes a handler and compares the results with the definition, which it returns.
func checkHandle(t *testing.T, s api.NodeState, p api.Program, handler int, at place, in vm.Input, answers ...int) (api.NodeState, Result) {
	t.Helper()
	before := text(s)
	got, want := script{answers: answers}, script{answers: answers}
	after, result := Handle(s, p, handler, at.self, at.nodes, at.drift, in, got.ask)
	wantAfter, wantResult := defined(s, p, handler, at, in, want.ask)
	checkSame(t, "the state", after, wantAfter)
	checkSame(t, "the result", result, wantResult)
	checkSame(t, "the questions", got.asked, want.asked)
	checkSame(t, "the state before", text(s), before)
	checkState(t, after)
	return after, result
}

// checkCrash crashes a node and compares the state with the definition, which it returns.
func checkCrash(t *testing.T, s api.NodeState, answers ...int) api.NodeState {
	t.Helper()
	before := text(s)
	got, want := script{answers: answers}, script{answers: answers}
	after := Crash(s, got.ask)
	checkSame(t, "the state after the crash", after, definedCrash(s, want.ask))
	checkSame(t, "the questions of the crash", got.asked, want.asked)
	checkSame(t, "the state before the crash", text(s), before)
	checkState(t, after)
	return after
}
