package node

import (
	"math"
	"slices"
	"strconv"
	"strings"
	"testing"

	"simproof/api"
	"simproof/vm"
)

// alone is a place of a node without others, whose clock does not jump.
func alone() place { return place{self: 0, nodes: 1} }

// started returns the state of a node that runs the program of a source, and the program.
func started(t *testing.T, source string) (api.NodeState, api.Program) {
	t.Helper()
	p := built(t, source)
	s, _ := checkStart(t, New(), p, 0, alone())
	return s, p
}

// handled executes the handler of requests on a state, without answers.
func handled(t *testing.T, s api.NodeState, p api.Program) (api.NodeState, Result) {
	t.Helper()
	return checkHandle(t, s, p, api.OnRequest, alone(), vm.Input{})
}

// P13.1: the state before the first start.
func TestNew(t *testing.T) {
	checkSame(t, "the new state", New(), api.NodeState{Version: -1, Waiting: -1})
	checkSame(t, "its variables", Vars(New()), []int{})
}

// P13.1: the pending writes count, and the volatile variables come last.
func TestVars(t *testing.T) {
	s, p := started(t, "durable d,e;volatile v,w;on start{e=1;sync;d=2;v=3;w=4;e=5;e=6;}on request{w=d;d=w+e;}")
	checkSame(t, "the variables", Vars(s), []int{2, 6, 3, 4})
	s, _ = handled(t, s, p)
	checkSame(t, "the variables", Vars(s), []int{8, 6, 3, 2})
	s, _ = started(t, "durable d;on start{d=7;}")
	checkSame(t, "the variables", Vars(s), []int{7})
	s, _ = started(t, "volatile v;on start{v=7;}")
	checkSame(t, "the variables", Vars(s), []int{7})
	s, _ = started(t, "on start{}")
	checkSame(t, "the variables", Vars(s), []int{})
}

// P13.2 to P13.4: the chapter's example.
func TestExample(t *testing.T) {
	s, p := started(t, "volatile v;on message 0{v=5;}")
	s, _ = checkHandle(t, s, p, 10, alone(), vm.Input{})
	if !slices.Equal(Vars(s), []int{5}) || s.Counts[api.OnStart] != 1 || s.Counts[10] != 1 || s.Clock != 2 {
		t.Errorf("the state is %+v", s)
	}
	s = checkCrash(t, s)
	if !slices.Equal(Vars(s), []int{0}) || s.Epoch != 1 {
		t.Errorf("the state after the crash is %+v", s)
	}
}

// P13.2: the fields that a start sets, and those that it keeps.
func TestStart(t *testing.T) {
	s, _ := started(t, "durable d;volatile v,w;on start{d=3;v=1;timer 2;}")
	s.Waiting, s.Dropped, s.Doubled = 9, 4, 5
	s = checkCrash(t, s, 1)
	s.Waiting, s.Timers = 8, []int{1, 6}
	p := built(t, "durable d;volatile x;on start{x=x+d;}")
	for _, version := range []int{0, 1, 63, api.MaxValue} {
		after, r := checkStart(t, s, p, version, place{self: 2, nodes: 5})
		want := api.NodeState{Up: true, Version: version, Epoch: 1, Clock: 2, Disk: api.Disk{Cells: []int{3}}, Volatile: []int{3}, Waiting: -1, Dropped: 4, Doubled: 5}
		want.Counts[api.OnStart], want.Counts[api.OnCrash] = 2, 1
		checkSame(t, "the state", after, want)
		checkSame(t, "the cause", r.Cause, api.Cause{Node: 2, Handler: api.OnStart, Count: 1})
	}
}

// declared returns a program with so many variables, which its start sets to different numbers.
func declared(t *testing.T, durable, volatile int) api.Program {
	t.Helper()
	var names, start strings.Builder
	for i := range durable + volatile {
		word, name := "durable ", "x"+strconv.Itoa(i)
		if i >= durable {
			word = "volatile "
		}
		names.WriteString(word + name + ";")
		start.WriteString("if " + name + "==0{" + name + "=" + strconv.Itoa(100+i) + ";}sync;")
	}
	return built(t, names.String()+"on start{"+start.String()+"}")
}

// upTo returns the integers from the first one to the one before the end.
func upTo(first, end int) []int {
	var l []int
	for i := first; i < end; i++ {
		l = append(l, i)
	}
	return l
}

// P13.2: the disk gets as many cells as the program has durable variables; the volatile variables are new.
func TestStartOfOtherVersions(t *testing.T) {
	for before := range api.MaxVars + 1 {
		s, _ := checkStart(t, New(), declared(t, before, api.MaxVars-before), 0, alone())
		s = checkCrash(t, s)
		checkSame(t, "the variables", Vars(s), append(upTo(100, 100+before), make([]int, api.MaxVars-before)...))
		for durable := range api.MaxVars + 1 {
			volatile := min(3, api.MaxVars-durable)
			after, r := checkStart(t, s, declared(t, durable, volatile), 1, alone())
			// Kept cells have the same numbers as new ones would get; what was written tells them apart.
			checkSame(t, "the variables", Vars(after), upTo(100, 100+durable+volatile))
			checkSame(t, "the number of writes", len(ofKind(r.Out.Acts, api.ActWrite)), max(0, durable-before))
		}
	}
	// The cells are kept as they are, and zeros follow.
	s, _ := started(t, "durable d,e;on start{d=5;e=6;}")
	s = checkCrash(t, s, 1)
	for names, want := range map[string][]int{"": nil, "durable d;": {5}, "durable e,d;": {5, 6}, "durable d,e,f;volatile v;": {5, 6, 0, 0}} {
		after, _ := checkStart(t, s, built(t, names), 1, alone())
		checkSame(t, names, Vars(after), want)
	}
}

// P13.2: the built-in values of a start are zero, but for those of the node.
func TestNamesOfStart(t *testing.T) {
	all := "v0=self;v1=nodes;v2=now;v3=from;v4=a;v5=b;v6=id;v7=op;v8=key;"
	p := built(t, "volatile v0,v1,v2,v3,v4,v5,v6,v7,v8;on start{"+all+"}on request{"+all+"}")
	for nodes := 1; nodes <= api.MaxNodes; nodes++ {
		for self := range nodes {
			s, _ := checkStart(t, New(), p, 0, place{self, nodes, 3}, 2)
			checkSame(t, "the variables", Vars(s), []int{self, nodes, 3, 0, 0, 0, 0, 0, 0})
			// P13.3: those of an input are its own, whatever it holds for the node and for the variables.
			for _, vars := range [][]int{nil, {1}, make([]int, 9), make([]int, 20)} {
				in := vm.Input{Vars: vars, Names: [api.Names]int{60, 61, 62, 63, -api.MaxValue, api.MaxValue, 66, 67, 68}}
				after, r := checkHandle(t, s, p, api.OnRequest, place{self, nodes, 2}, in, 1)
				checkSame(t, "the variables", Vars(after), []int{self, nodes, 5, 63, -api.MaxValue, api.MaxValue, 66, 67, 68})
				checkSame(t, "the output's variables", r.Out.Vars, Vars(after))
			}
		}
	}
}

// P13.3, P13.5, P13.6: the clock advances by 1, and further by the answer to a question that is asked if there is a choice.
func TestClock(t *testing.T) {
	p := built(t, "volatile v;on start{v=now;}on request{v=v*1000+now;}")
	for drift := range 4 {
		for jump := range drift + 1 {
			var want [][3]int
			if drift > 0 {
				want = [][3]int{{api.QTick, 0, drift + 1}}
			}
			q := script{answers: []int{jump}}
			s, _ := Start(New(), p, 0, 0, 1, drift, q.ask)
			checkSame(t, "the questions", q.asked, want)
			checkSame(t, "the clock", []int{s.Clock, Vars(s)[0]}, []int{1 + jump, 1 + jump})
			q.asked = nil
			s, _ = Handle(s, p, api.OnRequest, 0, 1, drift, vm.Input{}, q.ask)
			checkSame(t, "the questions", q.asked, want)
			checkSame(t, "the clock", []int{s.Clock, Vars(s)[0]}, []int{2 + 2*jump, 1000*(1+jump) + 2 + 2*jump})
			// A handler that the program does not have takes time, too.
			q.asked = nil
			s, _ = Handle(s, p, api.OnTimer, 0, 1, drift, vm.Input{}, q.ask)
			checkSame(t, "the questions", q.asked, want)
			checkSame(t, "the clock", s.Clock, 3+3*jump)
		}
	}
}

// P13.3, P13.5: draws are asked after the tick, and are numbered in each execution from 0.
func TestDraws(t *testing.T) {
	p := built(t, "volatile v,w,x;on start{v=draw(2);w=draw(1);}on request{v=draw(4);w=draw(draw(3)+1);x=draw(9);}")
	q := script{answers: []int{3, 1}}
	s, _ := Start(New(), p, 0, 0, 1, 3, q.ask)
	checkSame(t, "the questions", q.asked, [][3]int{{api.QTick, 0, 4}, {api.QDraw, 0, 2}})
	checkSame(t, "the variables", Vars(s), []int{1, 0, 0})
	for range 2 {
		q = script{answers: []int{1, 3, 2, 2, 0}}
		s, _ = Handle(s, p, api.OnRequest, 0, 1, 1, vm.Input{}, q.ask)
		checkSame(t, "the questions", q.asked, [][3]int{{api.QTick, 0, 2}, {api.QDraw, 0, 4}, {api.QDraw, 1, 3}, {api.QDraw, 2, 3}, {api.QDraw, 3, 4}})
		checkSame(t, "the variables", Vars(s), []int{3, 2, 0})
	}
	q = script{answers: []int{2, 0, 3}}
	s, _ = Handle(s, p, api.OnRequest, 0, 1, 0, vm.Input{}, q.ask)
	checkSame(t, "the questions", q.asked, [][3]int{{api.QDraw, 0, 4}, {api.QDraw, 1, 3}, {api.QDraw, 2, 4}})
	checkSame(t, "the variables", Vars(s), []int{2, 0, 3})
}

// P13.3: a handler that the program does not have is counted, but does nothing.
func TestMissingHandlers(t *testing.T) {
	s, p := started(t, "durable d;volatile v;on start{d=1;v=2;timer 3;}")
	s.Waiting = 6
	for h := range api.Handlers {
		if h == api.OnStart {
			continue
		}
		after, r := checkHandle(t, s, p, h, place{self: 3, nodes: 4}, vm.Input{Names: [api.Names]int{api.NameID: 6}})
		want := s
		want.Clock, want.Counts[h] = 2, 1
		checkSame(t, "the state", after, want)
		checkSame(t, "the result", r, Result{Cause: api.Cause{Node: 3, Handler: h}, Out: vm.Output{Vars: []int{1, 2}}})
	}
}

// P13.3, P13.6: every handler has a count of its own, which crashes do not reset.
func TestCounts(t *testing.T) {
	p := built(t, "on start{send 0,1,2,3;}on request{send 0,1,2,3;}")
	s := New()
	var want [api.Handlers + 1]int
	for epoch := range 3 {
		var r Result
		s, r = checkStart(t, s, p, epoch, alone())
		checkSame(t, "the cause", r.Cause, api.Cause{Count: epoch})
		want[api.OnStart]++
		for h := range api.Handlers {
			for range h % 3 {
				s, r = checkHandle(t, s, p, h, alone(), vm.Input{})
				checkSame(t, "the cause", r.Cause, api.Cause{Handler: h, Count: want[h]})
				want[h]++
			}
		}
		checkSame(t, "the counts", s.Counts, want)
		s = checkCrash(t, s)
		want[api.OnCrash]++
		checkSame(t, "the counts", s.Counts, want)
	}
}

// P13.3: the writes and syncs take effect in order, and the oldest write becomes permanent if there are too many.
func TestWrites(t *testing.T) {
	for _, c := range []struct {
		source string
		want   api.Disk
	}{
		{"", api.Disk{Cells: []int{0, 0}}},
		{"sync;", api.Disk{Cells: []int{0, 0}}},
		{"d=5;", api.Disk{Cells: []int{0, 0}, Pending: []api.Write{{Var: 0, Value: 5}}}},
		{"d=0;", api.Disk{Cells: []int{0, 0}, Pending: []api.Write{{Var: 0, Value: 0}}}},
		{"d=5;sync;", api.Disk{Cells: []int{5, 0}}},
		{"sync;d=5;", api.Disk{Cells: []int{0, 0}, Pending: []api.Write{{Var: 0, Value: 5}}}},
		{"e=4;sync;d=5;e=-6;", api.Disk{Cells: []int{0, 4}, Pending: []api.Write{{Var: 0, Value: 5}, {Var: 1, Value: -6}}}},
		{"d=1;e=2;d=3;e=4;", api.Disk{Cells: []int{0, 0}, Pending: []api.Write{{Var: 0, Value: 1}, {Var: 1, Value: 2}, {Var: 0, Value: 3}, {Var: 1, Value: 4}}}},
		{"d=1;e=2;d=3;e=4;d=5;d=6;", api.Disk{Cells: []int{1, 2}, Pending: []api.Write{{Var: 0, Value: 3}, {Var: 1, Value: 4}, {Var: 0, Value: 5}, {Var: 0, Value: 6}}}},
		{"v=1;v=2;v=3;", api.Disk{Cells: []int{0, 0}}},
		{"d=7;stop;sync;", api.Disk{Cells: []int{0, 0}, Pending: []api.Write{{Var: 0, Value: 7}}}},
	} {
		s, p := started(t, "durable d,e;volatile v;on request{"+c.source+"}")
		s, _ = handled(t, s, p)
		checkSame(t, c.source, s.Disk, c.want)
	}
}

// P13.3: writes of several executions are pending together.
func TestWritesOfExecutions(t *testing.T) {
	s, p := started(t, "durable d;on request{d=d+1;}on timer 0{sync;}")
	for k := 1; k <= 6; k++ {
		s, _ = handled(t, s, p)
		var want api.Disk
		want.Cells = []int{max(0, k-4)}
		for i := max(1, k-3); i <= k; i++ {
			want.Pending = append(want.Pending, api.Write{Value: i})
		}
		checkSame(t, "the disk", s.Disk, want)
	}
	s, _ = checkHandle(t, s, p, api.OnTimer, alone(), vm.Input{})
	checkSame(t, "the disk", s.Disk, api.Disk{Cells: []int{6}})
}

// P13.3: timers are set once, and stay in increasing order.
func TestTimers(t *testing.T) {
	for _, c := range []struct {
		source string
		want   []int
	}{
		{"", []int{2, 5}},
		{"timer 2;timer 5;", []int{2, 5}},
		{"timer 0;timer 7;timer 3;", []int{0, 2, 3, 5, 7}},
		{"cancel 2;", []int{5}},
		{"cancel 5;cancel 2;", nil},
		{"cancel 0;cancel 3;cancel 7;", []int{2, 5}},
		{"cancel 5;timer 5;cancel 2;", []int{5}},
		{"timer 4;cancel 4;", []int{2, 5}},
		{"timer 4;timer 4;cancel 4;cancel 4;", []int{2, 5}},
		{"timer 7;timer 6;timer 4;timer 3;timer 1;timer 0;", []int{0, 1, 2, 3, 4, 5, 6, 7}},
	} {
		s, p := started(t, "on start{timer 5;timer 2;timer 5;}on request{"+c.source+"}")
		s, _ = handled(t, s, p)
		checkSame(t, c.source, s.Timers, c.want)
	}
	// Each set of timers, with each timer set and cancelled.
	for k := range api.MaxTimers {
		p := built(t, "on request{timer "+strconv.Itoa(k)+";}on message 0{cancel "+strconv.Itoa(k)+";}")
		for set := range 1 << api.MaxTimers {
			s, _ := checkStart(t, New(), p, 0, alone())
			for i := range api.MaxTimers {
				if set>>i&1 == 1 {
					s.Timers = append(s.Timers, i)
				}
			}
			checkHandle(t, s, p, api.OnRequest, alone(), vm.Input{})
			checkHandle(t, s, p, api.OnMessage, alone(), vm.Input{})
		}
	}
}

// P13.3: messages are named by the execution, and numbered in it from 0; what is sent to no node has no number.
func TestSends(t *testing.T) {
	s, p := started(t, "on request{send 2,4,10,11;send 3,5,0,0;send -1,6,0,0;send self,29,-12,a;send 0,0,0,0;}on message 7{send 1,1,1,1;}")
	at := place{self: 1, nodes: 3}
	for count := range 3 {
		var r Result
		s, r = checkHandle(t, s, p, api.OnRequest, at, vm.Input{Names: [api.Names]int{api.NameA: 13}})
		c := api.Cause{Node: 1, Handler: api.OnRequest, Count: count}
		checkSame(t, "the messages", r.Sent, []api.Envelope{
			{Msg: api.Msg{Cause: c, Index: 0}, To: 2, Kind: 4, A: 10, B: 11},
			{Msg: api.Msg{Cause: c, Index: 1}, To: 1, Kind: 29, A: -12, B: 13},
			{Msg: api.Msg{Cause: c, Index: 2}},
		})
	}
	_, r := checkHandle(t, s, p, api.OnMessage+7, at, vm.Input{})
	checkSame(t, "the messages", r.Sent, []api.Envelope{{Msg: api.Msg{Cause: api.Cause{Node: 1, Handler: 17}}, To: 1, Kind: 1, A: 1, B: 1}})
}

// P13.3: as many messages as an execution can send.
func TestManySends(t *testing.T) {
	s, p := started(t, "volatile v;on request{while v<30{v=v+1;send 0,17,v,draw(2);}}")
	_, r := checkHandle(t, s, p, api.OnRequest, alone(), vm.Input{}, 0, 1, 1)
	if len(r.Sent) != api.MaxSends {
		t.Fatalf("there are %d messages", len(r.Sent))
	}
	for i, e := range r.Sent {
		checkSame(t, "the message", e, api.Envelope{Msg: api.Msg{Cause: api.Cause{Handler: api.OnRequest}, Index: i}, Kind: 17, A: i + 1, B: []int{0, 1, 1}[i%3]})
	}
}

// P13.3, P13.8: the first reply to the request that the node is waiting for counts.
func TestReplies(t *testing.T) {
	for _, c := range []struct {
		source        string
		waiting       int
		replied       bool
		value, remain int
	}{
		{"", 4, false, 0, 4},
		{"", -1, false, 0, -1},
		{"reply 4,9;", 4, true, 9, -1},
		{"reply 4,0;", 4, true, 0, -1},
		{"reply 4,-7;", 4, true, -7, -1},
		{"reply 4,9;reply 4,8;", 4, true, 9, -1},
		{"reply 3,7;reply 4,9;reply 5,8;", 4, true, 9, -1},
		{"reply 3,7;reply 5,8;", 4, false, 0, 4},
		{"reply 0,7;", 0, true, 7, -1},
		{"reply 0,7;", 4, false, 0, 4},
		{"reply 4,9;", -1, false, 0, -1},
		{"reply -1,9;", -1, false, 0, -1},
		{"reply -1,9;", 4, false, 0, 4},
		{"reply 4,9;reply -1,8;", 4, true, 9, -1},
		{"reply 299,9;", 299, true, 9, -1},
		{"reply 4+0*draw(2),9;", 4, true, 9, -1},
	} {
		s, p := started(t, "on request{"+c.source+"}on timer 1{"+c.source+"}")
		s.Waiting = c.waiting
		for _, handler := range []int{api.OnRequest, api.OnTimer + 1} {
			after, r := checkHandle(t, s, p, handler, alone(), vm.Input{Names: [api.Names]int{api.NameID: 4}})
			if r.Replied != c.replied || r.Value != c.value || after.Waiting != c.remain {
				t.Errorf("%q: the result is %+v, and the node waits for %d", c.source, r, after.Waiting)
			}
			again, r := checkHandle(t, after, p, handler, alone(), vm.Input{})
			if r.Replied || r.Value != 0 || again.Waiting != c.remain {
				t.Errorf("%q again: the result is %+v, and the node waits for %d", c.source, r, again.Waiting)
			}
		}
	}
	// A start forgets the request before its handler is executed.
	s := New()
	s.Waiting = 4
	s, r := checkStart(t, s, built(t, "on start{reply 4,9;}"), 0, alone())
	if r.Replied || s.Waiting != -1 {
		t.Errorf("the result is %+v, and the node waits for %d", r, s.Waiting)
	}
}

// P13.3: failures are reported in order, each time.
func TestFailures(t *testing.T) {
	s, p := started(t, "on request{fail 3;fail -a;fail 3;fail 0;}")
	_, r := checkHandle(t, s, p, api.OnRequest, alone(), vm.Input{Names: [api.Names]int{api.NameA: api.MaxValue}})
	checkSame(t, "the failures", r.Failures, []int{3, -api.MaxValue, 3, 0})
}

// P13.3: an execution whose fuel is spent has the effects of its actions so far.
func TestSpent(t *testing.T) {
	s, p := started(t, "durable d;volatile v;on request{while true{d=d+1;v=v+2;timer 1;}}")
	s, r := handled(t, s, p)
	if !r.Out.Spent || r.Out.Steps != api.MaxFuel || s.Counts[api.OnRequest] != 1 || !slices.Equal(Vars(s), r.Out.Vars) || len(s.Disk.Pending) != 4 || s.Disk.Cells[0] != Vars(s)[0]-4 || !slices.Equal(s.Timers, []int{1}) {
		t.Errorf("the state is %+v, and the result %+v", s, r)
	}
}

// P13.4, P13.5, P13.7: every number of pending writes, with all answers.
func TestCrash(t *testing.T) {
	for pending := range api.MaxPending + 1 {
		source := "durable d,e;volatile v,w;on start{timer 1;timer 6;d=1;e=2;sync;v=3;w=4;" + "d=5;e=6;d=7;e=8;"[:4*pending] + "}"
		s, _ := checkStart(t, New(), built(t, source), 3, alone())
		s.Waiting, s.Dropped, s.Doubled = 5, 1, 2
		for set := range 1 << pending {
			cells := []int{1, 2}
			var answers []int
			var asked [][3]int
			for i := range pending {
				answers = append(answers, set>>i&1)
				asked = append(asked, [3]int{api.QKeep, i, 2})
				if set>>i&1 == 1 {
					cells[i%2] = 5 + i
				}
			}
			want := api.NodeState{Version: 3, Epoch: 1, Clock: 1, Disk: api.Disk{Cells: cells}, Volatile: []int{0, 0}, Waiting: -1, Dropped: 1, Doubled: 2}
			want.Counts[api.OnStart], want.Counts[api.OnCrash] = 1, 1
			checkSame(t, "the state after the crash", checkCrash(t, s, answers...), want)
			q := script{answers: answers}
			Crash(s, q.ask)
			checkSame(t, "the questions", q.asked, asked)
		}
	}
}

// P13.4: only answers of 1 keep a write.
func TestKeep(t *testing.T) {
	s, _ := started(t, "durable d;on start{d=1;d=2;d=3;d=4;}")
	for kept := range api.MaxPending {
		after := Crash(s, func(_, index, _ int) int {
			if index == kept {
				return 1
			}
			return 0
		})
		checkSame(t, "the disk", after.Disk, api.Disk{Cells: []int{kept + 1}})
	}
}

// P13.4: a crash without pending writes asks nothing.
func TestCrashWithoutQuestions(t *testing.T) {
	s, _ := started(t, "durable d;volatile v;on start{d=1;v=1;sync;}")
	checkSame(t, "the variables", Vars(Crash(s, nil)), []int{1, 0})
	s, _ = started(t, "")
	checkSame(t, "the variables", Vars(Crash(s, nil)), []int{})
}

// P13.5: without choices nothing is asked.
func TestExecutionWithoutQuestions(t *testing.T) {
	p := built(t, "durable d;volatile v;on start{d=draw(1);v=draw(0)+draw(-5);}on request{v=7;}")
	s, _ := Start(New(), p, 0, 0, 1, 0, nil)
	s, _ = Handle(s, p, api.OnRequest, 0, 1, 0, vm.Input{}, nil)
	checkSame(t, "the variables", Vars(s), []int{0, 7})
}

// The functions return, whatever they are given, although the chapter promises nothing here.
func TestOutsideTheDomain(t *testing.T) {
	s, p := started(t, "durable d;volatile v;on start{d=1;}on request{v=draw(3);}")
	numbers := []int{math.MinInt, -1, 0, 1, api.Handlers, api.Handlers + 1, 1 << 40, math.MaxInt}
	failing := func(int, int, int) int { panic("no answer") }
	for _, ask := range []Ask{nil, failing, func(kind, _, _ int) int { return numbers[kind] }} {
		for _, n := range numbers {
			Start(s, p, n, n, n, n, ask)
			Handle(s, p, n, n, n, n, vm.Input{}, ask)
			odd := p
			odd.Durable, odd.Volatile = n, n
			Start(New(), odd, 0, 0, 1, 0, ask)
			Handle(s, odd, api.OnRequest, 0, 1, 0, vm.Input{}, ask)
			odd.Durable = 1
			Start(s, odd, 0, 0, 1, 0, ask)
			odd.Entry[api.OnStart] = n
			Start(s, odd, 0, 0, 1, 0, ask)
		}
		Crash(s, ask)
		Start(api.NodeState{}, api.Program{}, 0, 0, 1, 1, ask)
		Handle(api.NodeState{Timers: []int{3, 3, 1, -1}}, p, api.OnRequest, 0, 1, 0, vm.Input{}, ask)
	}
	Vars(api.NodeState{Disk: api.Disk{Cells: []int{1}, Pending: []api.Write{{Var: 7}}}})
	checkSame(t, "a crash without answers", Crash(s, failing), api.NodeState{})
	after, r := Handle(s, p, -1, 0, 1, 0, vm.Input{}, nil)
	checkSame(t, "no handler", after, api.NodeState{})
	checkSame(t, "no handler", r, Result{})
}
