package disk

import (
	"math"
	"math/rand"
	"slices"
	"testing"

	"simproof/api"
)

// keeps returns all lists of at most n elements.
func keeps(n int) [][]bool {
	lists := [][]bool{nil}
	for start := 0; n > 0; n-- {
		end := len(lists)
		for _, l := range lists[start:end] {
			lists = append(lists, append(slices.Clone(l), false), append(slices.Clone(l), true))
		}
		start = end
	}
	return lists
}

// P12.1 to P12.8: all sequences of writes to two cells and to two cells that do not exist, with all that can follow them.
func TestAllSequencesOfWrites(t *testing.T) {
	lists := keeps(api.MaxPending + 1)
	var extend func(d api.Disk, p past, room int)
	extend = func(d api.Disk, p past, room int) {
		checkSync(t, d, p)
		for _, keep := range lists {
			checkCrash(t, d, p, keep)
		}
		for cells := range 5 {
			checkResize(t, d, p, cells)
		}
		if room == 0 {
			return
		}
		for _, cell := range []int{0, 1, -1, 2} {
			// All values differ, so that each one tells where it came from.
			next, after := checkWrite(t, d, p, cell, room)
			extend(next, after, room-1)
		}
	}
	extend(New(2), past{base: []int{0, 0}}, 7)
}

// P12.1 to P12.8: all short sequences of all functions, with few values.
func TestAllSequencesOfCalls(t *testing.T) {
	var extend func(d api.Disk, p past, room int)
	extend = func(d api.Disk, p past, room int) {
		if room == 0 {
			return
		}
		again := func(d api.Disk, p past) { extend(d, p, room-1) }
		for cell := range 3 {
			again(checkWrite(t, d, p, cell, room%3))
		}
		again(checkSync(t, d, p))
		again(checkCrash(t, d, p, []bool{false, true}))
		again(checkCrash(t, d, p, []bool{true, false, true, true, true}))
		again(checkResize(t, d, p, 1))
		again(checkResize(t, d, p, 3))
	}
	extend(New(2), past{base: []int{0, 0}}, 6)
}

// number returns a random number, often an extreme one.
func number(r *rand.Rand) int {
	switch r.Intn(6) {
	case 0:
		return []int{math.MinInt, math.MinInt + 1, -api.MaxValue, -1, api.MaxValue, api.MaxValue + 1, math.MaxInt - 1, math.MaxInt}[r.Intn(8)]
	case 1:
		return int(r.Uint64() >> r.Intn(64))
	}
	return r.Intn(3)
}

// someKeep returns a random list of at most nine elements.
func someKeep(r *rand.Rand) []bool {
	keep := make([]bool, r.Intn(10))
	for i := range keep {
		keep[i] = r.Intn(2) == 0
	}
	return keep
}

// P12.1 to P12.8: long random sequences on disks of all sizes, with any numbers.
func TestRandomSequences(t *testing.T) {
	r := rand.New(rand.NewSource(1))
	for i := range 3000 {
		cells := i % (api.MaxVars + 1)
		d, p := New(cells), past{base: make([]int, cells)}
		for range r.Intn(60) {
			switch r.Intn(30) {
			case 0:
				d, p = checkSync(t, d, p)
			case 1:
				d, p = checkCrash(t, d, p, someKeep(r))
			case 2:
				d, p = checkResize(t, d, p, r.Intn(api.MaxVars+1))
			case 3:
				d, p = checkWrite(t, d, p, number(r), number(r))
			default:
				d, p = checkWrite(t, d, p, r.Intn(len(d.Cells)+1), number(r))
			}
		}
		checkSync(t, d, p)
		checkCrash(t, d, p, someKeep(r))
		checkResize(t, d, p, r.Intn(api.MaxVars+1))
	}
}

// P12.8: of many writes only the last ones can be lost, and the cells are those after the other ones.
func TestManyWrites(t *testing.T) {
	const total = 10000
	d := New(3)
	for k := 1; k <= total; k++ {
		d = Write(d, k*k%3, k)
	}
	values := []int{0, 0, 0}
	for k := 1; k <= total-api.MaxPending; k++ {
		values[k*k%3] = k
	}
	var last []api.Write
	for k := total - api.MaxPending + 1; k <= total; k++ {
		last = append(last, api.Write{Var: k * k % 3, Value: k})
	}
	if want := (api.Disk{Cells: values, Pending: last}); !same(d, want) {
		t.Errorf("the disk is %v, want %v", d, want)
	}
	if got := Crash(d, nil); !same(got, synced(values...)) {
		t.Errorf("the disk after a crash is %v", got)
	}
}
