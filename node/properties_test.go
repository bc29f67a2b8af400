package node

import (
	"math/rand"
	"slices"
	"strconv"
	"strings"
	"testing"

	"simproof/api"
	"simproof/vm"
)

// P13.2 to P13.9: all short sequences of statements, in the start and in another handler, after a start that left writes and timers.
func TestAllSequencesOfStatements(t *testing.T) {
	statements := []string{"d=d+1;", "e=draw(2)*9;", "v=v+d+now;", "sync;", "timer 3;", "timer 1;", "cancel 3;", "reply id,now;", "reply 2,v;", "send draw(3),4,d,v;", "fail v;", "stop;"}
	at := place{self: 1, nodes: 2, drift: 1}
	in := vm.Input{Names: [api.Names]int{api.NameID: 6}}
	var extend func(body string, room int)
	extend = func(body string, room int) {
		p := built(t, "durable d,e;volatile v;on start{if d==0{timer 3;timer 5;d=7;e=8;d=9;v=2;}"+body+"}on timer 5{"+body+"}")
		s, _ := checkStart(t, New(), p, 0, at, 1, 0)
		for _, waiting := range []int{-1, 2, 6} {
			s.Waiting = waiting
			after, _ := checkHandle(t, s, p, api.OnTimer+5, at, in, 0, 1, 2)
			after = checkCrash(t, after, 1, 0)
			checkStart(t, after, p, 1, at, 1, 1, 0)
		}
		if room == 0 {
			return
		}
		for _, statement := range statements {
			extend(body+statement, room-1)
		}
	}
	extend("", 3)
}

// maker makes random programs.
type maker struct {
	r         *rand.Rand
	variables []string
}

// pick returns one of some strings.
func (m *maker) pick(l ...string) string { return l[m.r.Intn(len(l))] }

// number returns a random number as a text, from 0 to the one before the end.
func (m *maker) number(end int) string { return strconv.Itoa(m.r.Intn(end)) }

// expr returns a random expression.
func (m *maker) expr() string {
	switch m.r.Intn(9) {
	case 0:
		return m.number(5)
	case 1:
		return m.pick("0", "1", "2147483647", "(-1)", "(-2147483647)")
	case 2:
		return "draw(" + m.expr() + ")"
	case 3:
		return "(" + m.expr() + m.pick("+", "-", "*", "/") + m.expr() + ")"
	case 4, 5:
		return m.pick("self", "nodes", "now", "from", "a", "b", "id", "op", "key")
	}
	return m.pick(append(m.variables, "id")...)
}

// statement returns a random statement.
func (m *maker) statement() string {
	switch m.r.Intn(13) {
	case 0:
		return "sync;"
	case 1:
		return "timer " + m.number(api.MaxTimers) + ";"
	case 2:
		return "cancel " + m.number(api.MaxTimers) + ";"
	case 3, 4:
		return "send " + m.pick("self", m.expr()) + "," + m.number(api.MaxKinds) + "," + m.expr() + "," + m.expr() + ";"
	case 5:
		return "reply " + m.pick("id", "id", m.expr()) + "," + m.expr() + ";"
	case 6:
		return "fail " + m.expr() + ";"
	case 7:
		return "if " + m.expr() + m.pick("<", "==", "!=") + m.expr() + "{" + m.statement() + m.pick("stop;", m.statement()) + "}"
	case 8:
		if m.r.Intn(9) == 0 {
			return "while " + m.expr() + "<" + m.expr() + "{" + m.statement() + "}"
		}
	}
	if len(m.variables) == 0 {
		return "sync;"
	}
	return m.pick(m.variables...) + "=" + m.expr() + ";"
}

// source returns the source of a random program.
func (m *maker) source() string {
	var text strings.Builder
	m.variables = nil
	for range m.r.Intn(5) {
		name := "x" + strconv.Itoa(len(m.variables))
		text.WriteString(m.pick("durable ", "volatile ") + name + ";")
		m.variables = append(m.variables, name)
	}
	for _, h := range []string{"start", "request", "timer 0", "timer 7", "message 0", "message 3", "message 29"} {
		if m.r.Intn(5) > 0 {
			text.WriteString("on " + h + "{")
			for range m.r.Intn(7) {
				text.WriteString(m.statement())
			}
			text.WriteString("}")
		}
	}
	return text.String()
}

// life is a random life of a node.
type life struct {
	t        *testing.T
	m        *maker
	programs []api.Program
	at       place
	s        api.NodeState
	requests int              // how many there were
	replied  map[int]bool     // by the requests
	sent     map[api.Msg]bool // all messages
	steps    map[string]int   // how often things happened
}

// newLife returns a life before the first start.
func newLife(t *testing.T, r *rand.Rand) *life {
	m := &maker{r: r}
	l := &life{t: t, m: m, s: New(), replied: map[int]bool{}, sent: map[api.Msg]bool{}, steps: map[string]int{}}
	for range 3 {
		l.programs = append(l.programs, built(t, m.source()))
	}
	l.at = place{nodes: 1 + r.Intn(api.MaxNodes), drift: r.Intn(4)}
	l.at.self = r.Intn(l.at.nodes)
	return l
}

// answers returns random answers.
func (l *life) answers() []int {
	return []int{l.m.r.Intn(4), l.m.r.Intn(4), l.m.r.Intn(4), l.m.r.Intn(4), l.m.r.Intn(4)}
}

// next lets something happen.
func (l *life) next() {
	switch choice := l.m.r.Intn(12); {
	case !l.s.Up:
		version := l.m.r.Intn(len(l.programs))
		after, result := checkStart(l.t, l.s, l.programs[version], version, l.at, l.answers()...)
		l.executed(after, result, api.OnStart)
	case choice == 0:
		l.crash()
	case choice == 1:
		l.s.Dropped++
	case choice == 2:
		l.s.Doubled++
	case choice < 6 && l.s.Waiting == -1:
		l.s.Waiting = l.requests
		l.requests++
		l.handle(api.OnRequest, l.s.Waiting)
	case choice < 8 && len(l.s.Timers) > 0:
		i := l.m.r.Intn(len(l.s.Timers))
		timer := l.s.Timers[i]
		l.s.Timers = slices.Delete(slices.Clone(l.s.Timers), i, i+1)
		l.handle(api.OnTimer+timer, 0)
	default:
		l.handle([]int{0, 1, 2, 5, 9, 10, 13, 14, 39}[l.m.r.Intn(9)], l.s.Waiting)
	}
}

// handle executes a handler with a request and otherwise random built-in values.
func (l *life) handle(handler, request int) {
	in := vm.Input{Vars: []int{5}}
	for i := range in.Names {
		in.Names[i] = []int{0, 1, 2, 3, 100, -1, api.MaxValue, -api.MaxValue}[l.m.r.Intn(8)]
	}
	in.Names[api.NameID] = request
	after, result := checkHandle(l.t, l.s, l.programs[l.s.Version], handler, l.at, in, l.answers()...)
	l.executed(after, result, handler)
}

// executed checks the properties of an execution.
func (l *life) executed(after api.NodeState, result Result, handler int) {
	// P13.6
	counts := l.s.Counts
	counts[handler]++
	if jump := after.Clock - l.s.Clock - 1; after.Counts != counts || jump < 0 || jump > l.at.drift || after.Epoch != l.s.Epoch || !after.Up {
		l.t.Fatalf("handler %d makes %+v of %+v", handler, after, l.s)
	}
	for i, e := range result.Sent {
		if l.sent[e.Msg] || e.Msg != (api.Msg{Cause: api.Cause{Node: l.at.self, Handler: handler, Count: l.s.Counts[handler]}, Index: i}) || e.To < 0 || e.To >= l.at.nodes {
			l.t.Fatalf("the messages are %+v", result.Sent)
		}
		l.sent[e.Msg] = true
	}
	// P13.8
	if result.Replied {
		if l.replied[l.s.Waiting] || l.s.Waiting == -1 || after.Waiting != -1 {
			l.t.Fatalf("there is another reply to %d", l.s.Waiting)
		}
		l.replied[l.s.Waiting] = true
		l.steps["reply"]++
	}
	l.steps["execution"]++
	l.steps["message"] += len(result.Sent)
	l.steps["failure"] += len(result.Failures)
	l.s = after
	if len(l.s.Timers) > 1 {
		l.steps["timers"]++
	}
}

// crash crashes the node, and checks what is left of the variables.
func (l *life) crash() {
	durable := len(l.s.Disk.Cells)
	zeros := make([]int, len(l.s.Volatile))
	// P13.7
	checkSame(l.t, "the variables if all writes are kept", Vars(checkCrash(l.t, l.s, 1)), slices.Concat(Vars(l.s)[:durable], zeros))
	checkSame(l.t, "the variables if no write is kept", Vars(checkCrash(l.t, l.s, 0)), slices.Concat(l.s.Disk.Cells, zeros))
	if len(l.s.Disk.Pending) > 0 {
		l.steps["loss"]++
	}
	l.s = checkCrash(l.t, l.s, l.answers()...)
	l.steps["crash"]++
}

// P13.2 to P13.9: random lives of nodes with random programs.
func TestRandomLives(t *testing.T) {
	r := rand.New(rand.NewSource(1))
	total := map[string]int{}
	for range 1500 {
		l := newLife(t, r)
		for range 60 {
			l.next()
		}
		for what, n := range l.steps {
			total[what] += n
		}
	}
	for what, least := range map[string]int{"execution": 50000, "message": 10000, "failure": 1000, "reply": 1000, "timers": 2000, "crash": 2000, "loss": 500} {
		if total[what] < least {
			t.Errorf("it is too rare: %s: %d", what, total[what])
		}
	}
}

// P13.7: what was synced survives crashes, whatever is answered, and what came after it only if it is kept.
func TestSyncedVariablesSurvive(t *testing.T) {
	p := built(t, "durable d,e;on request{d=a;e=b;}on timer 0{sync;}")
	s, _ := checkStart(t, New(), p, 0, alone())
	for k := 1; k <= 5; k++ {
		in := vm.Input{Names: [api.Names]int{api.NameA: k, api.NameB: 10 * k}}
		s, _ = checkHandle(t, s, p, api.OnRequest, alone(), in)
		synced, _ := checkHandle(t, s, p, api.OnTimer, alone(), vm.Input{})
		for answer := range 2 {
			checkSame(t, "the variables", Vars(checkCrash(t, synced, answer)), []int{k, 10 * k})
		}
		// The second crash finds nothing that it could lose.
		lost := checkCrash(t, s, 0, 1)
		checkSame(t, "the variables", Vars(lost), []int{0, 10 * k})
		lost, _ = checkStart(t, lost, p, 0, alone())
		checkSame(t, "the variables", Vars(checkCrash(t, lost)), []int{0, 10 * k})
		s, _ = checkStart(t, checkCrash(t, s, 0), p, 0, alone())
	}
}

// P13.6: names of messages are unique although the node crashes and gets other versions.
func TestNamesOfMessagesAreUnique(t *testing.T) {
	programs := []api.Program{built(t, "on start{send 0,0,0,0;send 0,0,0,0;}on message 0{send 0,0,0,0;}"), built(t, "on start{send 0,0,0,0;}"), built(t, "on message 0{send 0,1,0,0;send 0,0,0,0;}")}
	seen := map[api.Msg]bool{}
	s := New()
	for epoch := range 12 {
		p := programs[epoch%3]
		after, r := checkStart(t, s, p, epoch, alone())
		sent := r.Sent
		for range 3 {
			after, r = checkHandle(t, after, p, api.OnMessage, alone(), vm.Input{})
			sent = append(sent, r.Sent...)
		}
		for _, e := range sent {
			if seen[e.Msg] {
				t.Errorf("the name %+v is used twice", e.Msg)
			}
			seen[e.Msg] = true
		}
		s = checkCrash(t, after)
	}
	if len(seen) < 30 {
		t.Errorf("there are only %d messages", len(seen))
	}
}
