package node

import (
	"reflect"
	"slices"
	"testing"

	"simproof/api"
	"simproof/vm"
)

// region is the memory of a list, the spare capacity included.
type region struct{ start, end uintptr }

// regions returns the memory of all lists in a value.
func regions(v reflect.Value) []region {
	var l []region
	switch v.Kind() {
	case reflect.Struct:
		for i := range v.NumField() {
			l = append(l, regions(v.Field(i))...)
		}
	case reflect.Slice:
		if v.Cap() > 0 {
			l = append(l, region{v.Pointer(), v.Pointer() + uintptr(v.Cap())*v.Type().Elem().Size()})
		}
		for i := range v.Len() {
			l = append(l, regions(v.Index(i))...)
		}
	}
	return l
}

// checkApart fails the test if two lists in some values share memory.
func checkApart(t *testing.T, values ...any) {
	t.Helper()
	var all []region
	for _, v := range values {
		for _, a := range regions(reflect.ValueOf(v)) {
			for _, b := range all {
				if a.start < b.end && b.start < a.end {
					t.Fatalf("lists share memory: %+v", values)
				}
			}
			all = append(all, a)
		}
	}
}

// spare returns a copy of a list with marked elements behind it.
func spare[T any](list []T, mark T) []T {
	return append(slices.Clone(list), mark, mark, mark)[:len(list)]
}

// roomy returns a state whose lists have spare capacity.
func roomy(s api.NodeState) api.NodeState {
	s.Disk.Cells, s.Disk.Pending = spare(s.Disk.Cells, 99), spare(s.Disk.Pending, api.Write{Var: 99})
	s.Volatile, s.Timers = spare(s.Volatile, 99), spare(s.Timers, 99)
	return s
}

// behind returns a state with the elements in the spare capacity of its lists.
func behind(s api.NodeState) api.NodeState {
	s.Disk.Cells, s.Disk.Pending = s.Disk.Cells[:cap(s.Disk.Cells)], s.Disk.Pending[:cap(s.Disk.Pending)]
	s.Volatile, s.Timers = s.Volatile[:cap(s.Volatile)], s.Timers[:cap(s.Timers)]
	return s
}

// everything is a program that uses all lists of a state and of a result, or changes none of them.
const everything = `durable d,e;volatile v,w;
on start{timer 4;timer 2;d=1;e=2;v=3;w=4;}
on request{timer 3;timer 1;cancel 4;d=5;e=draw(3);v=7;w=8;send 0,1,2,3;send 0,4,5,6;fail 7;fail 8;reply 1,2;}
on timer 0{sync;}on timer 1{}on timer 2{d=6;d=7;d=8;}on timer 3{cancel 2;}on timer 4{timer 5;}`

// P13.9, R4: states, programs and inputs are not changed, nor is the memory behind their lists, and all lists of the results are new.
func TestMemory(t *testing.T) {
	p := built(t, everything)
	p.Code = spare(p.Code, api.Ins{Op: 99})
	code := slices.Clone(p.Code[:cap(p.Code)])
	in := vm.Input{Vars: spare([]int{50, 51, 52, 53}, 99)}
	vars := slices.Clone(in.Vars[:cap(in.Vars)])
	s, r := checkStart(t, New(), p, 0, alone())
	checkApart(t, s, r, p)
	states := []api.NodeState{roomy(s)}
	for h := range api.OnTimer + api.MaxTimers {
		s, _ = checkHandle(t, s, p, h, alone(), in, 1)
		states = append(states, roomy(s))
	}
	for _, s := range states {
		before := text(behind(s))
		for h := range api.OnTimer + api.MaxTimers {
			s.Waiting = -1
			after, r := checkHandle(t, s, p, h, alone(), in, 1)
			checkApart(t, s, p, in, after, r)
		}
		down := checkCrash(t, s, 0, 1)
		checkApart(t, s, down, Vars(s), Vars(down))
		if text(behind(s)) != before {
			t.Fatalf("the state %s became %+v", before, behind(s))
		}
		down = roomy(down)
		before = text(behind(down))
		for _, q := range []api.Program{p, built(t, ""), built(t, "durable d;"), built(t, "durable a0,a1,a2;volatile v;")} {
			after, r := checkStart(t, down, q, 1, alone())
			checkApart(t, down, q, after, r)
		}
		if text(behind(down)) != before {
			t.Fatalf("the state %s became %+v", before, behind(down))
		}
	}
	checkSame(t, "the code", p.Code[:cap(p.Code)], code)
	checkSame(t, "the variables of the input", in.Vars[:cap(in.Vars)], vars)
}

// P13.9: several states can be made of one.
func TestBranches(t *testing.T) {
	p := built(t, everything)
	s, _ := checkStart(t, New(), p, 0, alone())
	for range 3 {
		one, _ := checkHandle(t, s, p, api.OnRequest, alone(), vm.Input{}, 1)
		before := text(one)
		checkHandle(t, s, p, api.OnRequest, alone(), vm.Input{}, 2)
		checkHandle(t, s, p, api.OnTimer+2, alone(), vm.Input{})
		checkCrash(t, s, 1)
		checkSame(t, "the state", text(one), before)
		s = one
	}
}

// R4: nil and empty lists are the same.
func TestEmptyLists(t *testing.T) {
	p := built(t, everything)
	s := New()
	empty := s
	empty.Disk = api.Disk{Cells: []int{}, Pending: []api.Write{}}
	empty.Volatile, empty.Timers = []int{}, []int{}
	checkSame(t, "the variables", Vars(empty), []int{})
	got, result := checkStart(t, empty, p, 0, alone())
	want, wantResult := checkStart(t, s, p, 0, alone())
	checkSame(t, "the state", got, want)
	checkSame(t, "the result", result, wantResult)
	s, q := started(t, "on request{timer 1;}")
	s.Disk.Pending, s.Timers, s.Volatile = []api.Write{}, []int{}, []int{}
	after, _ := checkHandle(t, s, q, api.OnRequest, alone(), vm.Input{})
	checkSame(t, "the timers", after.Timers, []int{1})
	checkCrash(t, s)
}

// R5: the results of a call are the same every time, whatever the capacities of the lists are and whatever else was called.
func TestResultsAreRepeated(t *testing.T) {
	p := built(t, everything)
	s, _ := checkStart(t, New(), p, 0, alone())
	var first string
	for capacity := range 20 {
		u := s
		u.Disk.Cells, u.Disk.Pending = slices.Grow(slices.Clone(s.Disk.Cells), capacity), slices.Grow(slices.Clone(s.Disk.Pending), capacity)
		u.Volatile, u.Timers = slices.Grow(slices.Clone(s.Volatile), capacity), slices.Grow(slices.Clone(s.Timers), capacity)
		u.Waiting = 1
		q := script{answers: []int{2}}
		after, result := Handle(u, p, api.OnRequest, 0, 1, 2, vm.Input{}, q.ask)
		down := Crash(after, q.ask)
		again, restart := Start(down, p, 1, 0, 1, 2, q.ask)
		all := text([]any{after, result, down, again, restart, Vars(u), q.asked})
		if first == "" {
			first = all
		}
		checkSame(t, "the results", all, first)
		checkHandle(t, s, p, api.OnTimer+2, alone(), vm.Input{})
	}
}
