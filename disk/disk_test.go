package disk

import (
	"math"
	"slices"
	"testing"

	"simproof/api"
)

// written returns a disk after some writes: the pairs hold a cell and its value.
func written(cells int, pairs ...[2]int) api.Disk {
	d := New(cells)
	for _, p := range pairs {
		d = Write(d, p[0], p[1])
	}
	return d
}

// writes returns a list of writes: the pairs hold a cell and its value.
func writes(pairs ...[2]int) []api.Write {
	var l []api.Write
	for _, p := range pairs {
		l = append(l, api.Write{Var: p[0], Value: p[1]})
	}
	return l
}

// same reports whether two disks are equal, where nil and empty lists are.
func same(a, b api.Disk) bool {
	return slices.Equal(a.Cells, b.Cells) && slices.Equal(a.Pending, b.Pending)
}

// synced returns a disk with some cells and no pending writes.
func synced(cells ...int) api.Disk { return api.Disk{Cells: cells} }

// P12.1: as many zeros as there are cells, and no pending writes.
func TestNew(t *testing.T) {
	for cells := range api.MaxVars + 1 {
		d := New(cells)
		zeros := make([]int, cells)
		if !same(d, synced(zeros...)) || !slices.Equal(View(d), zeros) {
			t.Errorf("New(%d) is %v with the view %v", cells, d, View(d))
		}
	}
}

// P12.1 to P12.4: the chapter's example.
func TestExample(t *testing.T) {
	d := written(2, [2]int{0, 5}, [2]int{1, 6}, [2]int{0, 7})
	if want := (api.Disk{Cells: []int{0, 0}, Pending: writes([2]int{0, 5}, [2]int{1, 6}, [2]int{0, 7})}); !same(d, want) {
		t.Errorf("the disk is %v", d)
	}
	if got := View(d); !slices.Equal(got, []int{7, 6}) {
		t.Errorf("the view is %v", got)
	}
	if got := Crash(d, []bool{true, false, false}); !same(got, synced(5, 0)) {
		t.Errorf("the disk after the crash is %v", got)
	}
	if got := Sync(d); !same(got, synced(7, 6)) {
		t.Errorf("the synced disk is %v", got)
	}
}

// P12.1: of several writes to a cell the last one counts, whatever the cells held before.
func TestView(t *testing.T) {
	for _, c := range []struct {
		d    api.Disk
		want []int
	}{
		{New(0), nil},
		{written(1, [2]int{0, 3}), []int{3}},
		{written(1, [2]int{0, 3}, [2]int{0, 4}), []int{4}},
		{written(1, [2]int{0, 3}, [2]int{0, 0}), []int{0}},
		{written(2, [2]int{1, 3}, [2]int{0, 4}, [2]int{1, 5}), []int{4, 5}},
		{Write(Sync(written(2, [2]int{0, 3}, [2]int{1, 4})), 0, 0), []int{0, 4}},
		{written(3, [2]int{0, 1}, [2]int{0, 2}, [2]int{0, 3}, [2]int{0, 4}, [2]int{1, 5}, [2]int{0, 6}), []int{6, 5, 0}},
		{written(2, [2]int{0, math.MinInt}, [2]int{1, math.MaxInt}), []int{math.MinInt, math.MaxInt}},
	} {
		if got := View(c.d); !slices.Equal(got, c.want) {
			t.Errorf("the view of %v is %d, want %d", c.d, got, c.want)
		}
	}
}

// P12.2: one write becomes permanent for each one that is too many.
func TestWrite(t *testing.T) {
	all := [][2]int{{0, 1}, {1, 2}, {0, 3}, {0, 4}, {2, 5}, {1, 6}, {1, 0}, {0, 8}}
	for k, cells := range [][]int{{0, 0, 0}, {0, 0, 0}, {0, 0, 0}, {0, 0, 0}, {0, 0, 0}, {1, 0, 0}, {1, 2, 0}, {3, 2, 0}, {4, 2, 0}} {
		want := api.Disk{Cells: cells, Pending: writes(all[max(0, k-4):k]...)}
		if got := written(3, all[:k]...); !same(got, want) {
			t.Errorf("after %d writes the disk is %v, want %v", k, got, want)
		}
	}
}

// P12.2: a write that changes no value is a write, too.
func TestWriteOfTheSameValue(t *testing.T) {
	d := written(1, [2]int{0, 0}, [2]int{0, 0}, [2]int{0, 7})
	if want := (api.Disk{Cells: []int{0}, Pending: writes([2]int{0, 0}, [2]int{0, 0}, [2]int{0, 7})}); !same(d, want) {
		t.Errorf("the disk is %v", d)
	}
	if got := written(1, [2]int{0, 7}, [2]int{0, 7}, [2]int{0, 7}, [2]int{0, 7}, [2]int{0, 7}); len(got.Pending) != 4 || got.Cells[0] != 7 {
		t.Errorf("the disk is %v", got)
	}
}

// P12.2: a write to a cell that does not exist changes nothing, and makes no write permanent.
func TestWriteToNoCell(t *testing.T) {
	four := [][2]int{{1, 1}, {0, 2}, {1, 3}, {1, 4}}
	for _, d := range []api.Disk{New(0), New(1), New(2), New(api.MaxVars), written(2, four[:1]...), written(2, four...), Sync(written(2, four...)), written(2, append(four, [2]int{1, 5})...)} {
		n := len(d.Cells)
		for _, cell := range []int{-1, n, n + 1, api.MaxVars, api.MaxVars + 1, math.MinInt, math.MaxInt, -n} {
			if 0 <= cell && cell < n {
				continue
			}
			if got := Write(d, cell, 9); !same(got, d) {
				t.Errorf("a write to cell %d of %v makes it %v", cell, d, got)
			}
		}
	}
}

// P12.2: every cell of the largest disk can be written.
func TestWriteToEachCell(t *testing.T) {
	d := New(api.MaxVars)
	want := make([]int, api.MaxVars)
	for i := range want {
		d = Write(d, i, 100+i)
		want[i] = 100 + i
	}
	if !slices.Equal(View(d), want) || len(d.Pending) != api.MaxPending {
		t.Errorf("the disk is %v", d)
	}
}

// P12.3: the synced disk has the values of the view.
func TestSync(t *testing.T) {
	for _, c := range []struct{ d, want api.Disk }{
		{New(0), synced()},
		{New(2), synced(0, 0)},
		{written(2, [2]int{1, 3}), synced(0, 3)},
		{written(2, [2]int{1, 3}, [2]int{1, 4}, [2]int{0, -1}), synced(-1, 4)},
		{Sync(written(2, [2]int{1, 3})), synced(0, 3)},
		{written(2, [2]int{0, 1}, [2]int{1, 2}, [2]int{1, 3}, [2]int{1, 4}, [2]int{1, 5}, [2]int{1, 6}), synced(1, 6)},
	} {
		if got := Sync(c.d); !same(got, c.want) {
			t.Errorf("the synced disk of %v is %v, want %v", c.d, got, c.want)
		}
	}
}

// P12.4: the writes that are kept are applied in order, and the other ones are lost.
func TestCrash(t *testing.T) {
	d := written(2, [2]int{0, 9}, [2]int{0, 1}, [2]int{1, 2}, [2]int{0, 3}, [2]int{1, 4})
	for _, c := range []struct {
		keep []bool
		want []int
	}{
		{nil, []int{9, 0}},
		{[]bool{}, []int{9, 0}},
		{[]bool{false, false, false, false}, []int{9, 0}},
		{[]bool{true, true, true, true}, []int{3, 4}},
		{[]bool{true}, []int{1, 0}},
		{[]bool{false, true}, []int{9, 2}},
		{[]bool{true, true, true}, []int{3, 2}},
		{[]bool{true, false, true}, []int{3, 0}},
		{[]bool{true, false, false, true}, []int{1, 4}},
		{[]bool{false, false, false, true}, []int{9, 4}},
		{[]bool{false, false, false, false, true}, []int{9, 0}},
		{[]bool{false, false, true, false, true, true, true}, []int{3, 0}},
	} {
		if got := Crash(d, c.keep); !same(got, synced(c.want...)) {
			t.Errorf("the disk after a crash that keeps %t is %v, want %v", c.keep, got, c.want)
		}
	}
	long := make([]bool, 1000)
	for i := 4; i < len(long); i++ {
		long[i] = true
	}
	if got := Crash(d, long); !same(got, synced(9, 0)) {
		t.Errorf("the disk after a crash with 1000 elements is %v", got)
	}
}

// P12.4: a crash does not affect a disk without pending writes.
func TestCrashOfSyncedDisk(t *testing.T) {
	for _, d := range []api.Disk{New(0), New(3), Sync(written(2, [2]int{0, 5}))} {
		for _, keep := range [][]bool{nil, {true}, {false, true, true}} {
			if got := Crash(d, keep); !same(got, d) {
				t.Errorf("the disk %v after a crash that keeps %t is %v", d, keep, got)
			}
		}
	}
}

// P12.5: the last cells go, or zeros are added. The writes become permanent before.
func TestResize(t *testing.T) {
	d := written(3, [2]int{0, 1}, [2]int{2, 2}, [2]int{0, 3}, [2]int{1, 4}, [2]int{2, 5})
	for cells, want := range [][]int{nil, {3}, {3, 4}, {3, 4, 5}, {3, 4, 5, 0}, {3, 4, 5, 0, 0}} {
		if got := Resize(d, cells); !same(got, synced(want...)) {
			t.Errorf("the disk with %d cells is %v, want %v", cells, got, want)
		}
	}
	if got := Resize(Resize(d, 1), 3); !same(got, synced(3, 0, 0)) {
		t.Errorf("the disk that was smaller in between is %v", got)
	}
	if got := Resize(New(0), api.MaxVars); !same(got, New(api.MaxVars)) {
		t.Errorf("the largest disk is %v", got)
	}
	if got := Write(Resize(d, 4), 3, 6); !same(got, api.Disk{Cells: []int{3, 4, 5, 0}, Pending: writes([2]int{3, 6})}) {
		t.Errorf("the disk after a write to the new cell is %v", got)
	}
	if got := Write(Resize(d, 2), 2, 6); !same(got, synced(3, 4)) {
		t.Errorf("the disk after a write to a cell that is gone is %v", got)
	}
}

// The functions return, whatever they are given, although the chapter promises nothing here.
func TestOutsideTheDomain(t *testing.T) {
	for _, cells := range []int{-1, math.MinInt, api.MaxVars + 1, 1 << 40, math.MaxInt} {
		want := New(0)
		if cells > 0 {
			want = New(api.MaxVars)
		}
		if got := New(cells); !same(got, want) {
			t.Errorf("New(%d) is %v", cells, got)
		}
		if got := Resize(New(2), cells); !same(got, want) {
			t.Errorf("Resize(New(2), %d) is %v", cells, got)
		}
	}
	odd := api.Disk{Cells: []int{1}, Pending: writes([2]int{-1, 2}, [2]int{math.MaxInt, 3}, [2]int{0, 4}, [2]int{1, 5}, [2]int{math.MinInt, 6}, [2]int{0, 7})}
	if got := View(odd); !slices.Equal(got, []int{7}) {
		t.Errorf("the view is %v", got)
	}
	if got := Write(odd, 0, 8); len(got.Pending) != api.MaxPending || got.Cells[0] != 4 {
		t.Errorf("the disk after a write is %v", got)
	}
	if got := Write(odd, 1, 8); !same(got, odd) {
		t.Errorf("the disk after a write to no cell is %v", got)
	}
	if got := Crash(odd, []bool{true, true, true, true, true}); !same(got, synced(4)) {
		t.Errorf("the disk after a crash is %v", got)
	}
	if got := Resize(odd, 2); !same(got, synced(7, 0)) {
		t.Errorf("the disk with two cells is %v", got)
	}
}
