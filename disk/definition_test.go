package disk

import (
	"slices"
	"testing"

	"simproof/api"
)

// A past is a disk as P12.8 describes it: the cells when it was synced last, and all writes to existing cells since then.
type past struct {
	base []int
	log  []api.Write
}

// permanent returns how many of the writes are permanent.
func (p past) permanent() int {
	if k := len(p.log); k > api.MaxPending {
		return k - api.MaxPending
	}
	return 0
}

// values returns, for each cell, what the last write of the log to it that counts has written.
func (p past) values(counts func(i int) bool) []int {
	l := make([]int, len(p.base))
	for cell := range l {
		l[cell] = p.base[cell]
		for i := len(p.log) - 1; i >= 0; i-- {
			if p.log[i].Var == cell && counts(i) {
				l[cell] = p.log[i].Value
				break
			}
		}
	}
	return l
}

// view returns the values after all writes.
func (p past) view() []int { return p.values(func(int) bool { return true }) }

// disk returns the disk with this past.
func (p past) disk() api.Disk {
	first := p.permanent()
	return api.Disk{Cells: p.values(func(i int) bool { return i < first }), Pending: p.log[first:]}
}

// write returns the past after another write.
func (p past) write(cell, value int) past {
	if slices.Contains(rangeOf(len(p.base)), cell) {
		return past{p.base, append(slices.Clone(p.log), api.Write{Var: cell, Value: value})}
	}
	return p
}

// crash returns the past after a crash.
func (p past) crash(keep []bool) past {
	kept := map[int]bool{}
	for i, k := range keep {
		kept[p.permanent()+i] = k
	}
	return past{base: p.values(func(i int) bool { return i < p.permanent() || kept[i] })}
}

// resize returns the past after a change of the number of cells.
func (p past) resize(cells int) past {
	var base []int
	for cell := range cells {
		if cell < len(p.base) {
			base = append(base, p.view()[cell])
		} else {
			base = append(base, 0)
		}
	}
	return past{base: base}
}

// rangeOf returns the numbers less than n.
func rangeOf(n int) []int {
	l := make([]int, n)
	for i := range l {
		l[i] = i
	}
	return l
}

// checkDisk compares a disk, and what can be read from it, with its past.
func checkDisk(t *testing.T, d api.Disk, p past) {
	t.Helper()
	if want := p.disk(); !same(d, want) {
		t.Fatalf("the disk with the past %v is %v, want %v", p, d, want)
	}
	if got := View(d); !slices.Equal(got, p.view()) {
		t.Fatalf("the view of %v is %v, want %v", d, got, p.view())
	}
	if len(d.Pending) > api.MaxPending {
		t.Fatalf("the disk %v has %d pending writes", d, len(d.Pending))
	}
}

// checkWrite makes a write and compares the disk with the one before and with its past, which it returns.
func checkWrite(t *testing.T, d api.Disk, p past, cell, value int) (api.Disk, past) {
	t.Helper()
	got, after := Write(d, cell, value), p.write(cell, value)
	checkDisk(t, got, after)
	want := View(d)
	if slices.Contains(rangeOf(len(d.Cells)), cell) {
		want[cell] = value
	} else if !same(got, d) {
		t.Fatalf("a write to cell %d of %v makes it %v", cell, d, got)
	}
	if !slices.Equal(View(got), want) {
		t.Fatalf("after a write of %d to cell %d of %v the view is %v, want %v", value, cell, d, View(got), want)
	}
	return got, after
}

// checkSync syncs a disk and compares the result with the past, as above.
func checkSync(t *testing.T, d api.Disk, p past) (api.Disk, past) {
	t.Helper()
	got, after := Sync(d), past{base: p.view()}
	checkDisk(t, got, after)
	if !slices.Equal(View(got), View(d)) || !slices.Equal(got.Cells, View(d)) || len(got.Pending) > 0 {
		t.Fatalf("the synced disk of %v is %v", d, got)
	}
	return got, after
}

// checkCrash crashes a disk and compares the result with the past, as above.
func checkCrash(t *testing.T, d api.Disk, p past, keep []bool) (api.Disk, past) {
	t.Helper()
	got, after := Crash(d, keep), p.crash(keep)
	checkDisk(t, got, after)
	if len(got.Pending) > 0 || len(got.Cells) != len(d.Cells) {
		t.Fatalf("after a crash that keeps %t of %v it is %v", keep, d, got)
	}
	all, none := len(keep) >= len(d.Pending), true
	for i := range d.Pending {
		all = all && keep[i]
		none = none && (i >= len(keep) || !keep[i])
	}
	if all && !slices.Equal(got.Cells, View(d)) || none && !slices.Equal(got.Cells, d.Cells) {
		t.Fatalf("after a crash that keeps %t of %v it is %v", keep, d, got)
	}
	for cell, value := range got.Cells {
		if value != d.Cells[cell] && !slices.Contains(d.Pending, api.Write{Var: cell, Value: value}) {
			t.Fatalf("after a crash that keeps %t of %v it is %v, where cell %d has a new value", keep, d, got, cell)
		}
	}
	return got, after
}

// checkResize changes the number of cells and compares the result with the past, as above.
func checkResize(t *testing.T, d api.Disk, p past, cells int) (api.Disk, past) {
	t.Helper()
	got, after := Resize(d, cells), p.resize(cells)
	checkDisk(t, got, after)
	if len(got.Cells) != cells || len(got.Pending) > 0 {
		t.Fatalf("the disk %v with %d cells is %v", d, cells, got)
	}
	return got, after
}
