package disk

import (
	"reflect"
	"slices"
	"testing"

	"simproof/api"
)

// spare returns a copy of a list with marked elements behind it, and the whole of its memory.
func spare[T any](list []T, mark T) ([]T, []T) {
	whole := append(slices.Clone(list), mark, mark)
	return whole[:len(list)], whole
}

// results returns the disks that the functions make of a disk with two cells.
func results(d api.Disk, keep []bool) []api.Disk {
	return []api.Disk{
		Write(d, 0, 7), Write(d, 1, 8), Write(d, 2, 9), Write(d, -1, 9), Sync(d),
		Crash(d, nil), Crash(d, keep), Resize(d, 1), Resize(d, 2), Resize(d, 3), {Cells: View(d)},
	}
}

// scribble changes a disk, and the memory behind its lists.
func scribble(d api.Disk) {
	for i := range d.Cells {
		d.Cells[i] = -77
	}
	for i := range d.Pending {
		d.Pending[i] = api.Write{Var: -77}
	}
	_ = append(d.Cells, -77)
	_ = append(d.Pending, api.Write{Var: -77})
}

// R4: disks are not changed, and neither is the memory behind their lists. Results have memory of their own.
func TestDisksAreKept(t *testing.T) {
	keep, allKeep := spare([]bool{true, false, true}, true)
	for pending := range api.MaxPending + 1 {
		var d api.Disk
		var cells []int
		var list []api.Write
		d.Cells, cells = spare([]int{5, 6}, 99)
		d.Pending, list = spare(writes([2]int{0, 1}, [2]int{1, 2}, [2]int{1, 3}, [2]int{0, 4})[:pending], api.Write{Var: 99})
		cellsBefore, listBefore := slices.Clone(cells), slices.Clone(list)
		first, want := results(d, keep), results(d, keep)
		for i, got := range first {
			scribble(got)
			// Those that were not changed yet share no memory with this one.
			for j := i + 1; j < len(first); j++ {
				if !reflect.DeepEqual(first[j], want[j]) {
					t.Errorf("result %d changed with result %d of %v: %v", j, i, d, first[j])
				}
			}
		}
		if !slices.Equal(cells, cellsBefore) || !slices.Equal(list, listBefore) {
			t.Errorf("the lists are %v and %v", cells, list)
		}
		if got := results(d, keep); !reflect.DeepEqual(got, want) {
			t.Errorf("the results are %v, and were %v", got, want)
		}
	}
	if !slices.Equal(allKeep, []bool{true, false, true, true, true}) {
		t.Errorf("the list of the writes that are kept is %t", allKeep)
	}
}

// R4: a disk that a function made is not changed by those made of it, nor these by each other.
func TestBranches(t *testing.T) {
	d := New(1)
	for i := range 3 * api.MaxPending {
		before := api.Disk{Cells: slices.Clone(d.Cells), Pending: slices.Clone(d.Pending)}
		one, other := Write(d, 0, 100+i), Write(d, 0, 200+i)
		if one.Pending[len(one.Pending)-1].Value != 100+i || other.Pending[len(other.Pending)-1].Value != 200+i {
			t.Errorf("the disks are %v and %v", one, other)
		}
		scribble(other)
		if !same(d, before) || View(one)[0] != 100+i {
			t.Errorf("the disk is %v, and was %v", d, before)
		}
		d = one
	}
	one, other := New(2), New(2)
	scribble(one)
	if !same(other, synced(0, 0)) || !same(New(2), other) {
		t.Errorf("the new disk is %v", other)
	}
}

// R4: the arguments are not kept.
func TestArgumentsAreNotKept(t *testing.T) {
	d := api.Disk{Cells: []int{5, 6}, Pending: writes([2]int{0, 1}, [2]int{1, 2}, [2]int{1, 3}, [2]int{0, 4})}
	keep := []bool{true, false, true}
	got, want := results(d, keep), results(d, keep)
	scribble(d)
	clear(keep)
	if !reflect.DeepEqual(got, want) {
		t.Errorf("the results are %v, and were %v", got, want)
	}
}

// R4: nil and empty lists are the same.
func TestEmptyLists(t *testing.T) {
	for _, d := range []api.Disk{{}, {Cells: []int{}, Pending: []api.Write{}}} {
		if got := []api.Disk{Write(d, 0, 1), Sync(d), Crash(d, nil), Crash(d, []bool{}), Resize(d, 0), {Cells: View(d)}}; slices.ContainsFunc(got, func(x api.Disk) bool { return !same(x, api.Disk{}) }) {
			t.Errorf("%v are made of an empty disk", got)
		}
		if got := Resize(d, 2); !same(got, New(2)) {
			t.Errorf("%v is made of an empty disk", got)
		}
	}
	for _, pending := range [][]api.Write{nil, {}} {
		d := api.Disk{Cells: []int{3}, Pending: pending}
		if got := Write(d, 0, 4); !same(got, api.Disk{Cells: []int{3}, Pending: writes([2]int{0, 4})}) || !same(Sync(d), d) {
			t.Errorf("the disk %v after a write is %v", d, got)
		}
	}
}

// R5: the results of a call are the same every time, whatever the capacities of the lists are.
func TestResultsAreRepeated(t *testing.T) {
	d := api.Disk{Cells: []int{5, 6}, Pending: writes([2]int{0, 1}, [2]int{1, 2}, [2]int{1, 3}, [2]int{0, 4})}
	keep := []bool{false, true, true}
	first := results(d, keep)
	for capacity := range 20 {
		e := api.Disk{Cells: slices.Grow(slices.Clone(d.Cells), capacity), Pending: slices.Grow(slices.Clone(d.Pending), capacity)}
		if !reflect.DeepEqual(results(e, keep), first) {
			t.Fatal("a result differs")
		}
	}
}
