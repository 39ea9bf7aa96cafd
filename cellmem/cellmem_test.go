package cellmem_test

import (
	"math"
	"math/rand"
	"runtime"
	"slices"
	"testing"

	"arenanet/api"
	"arenanet/cellmem"
)

// model is a memory by another way than the program's: it keeps all cells at every position from its beginning, and undoes by going
// back to them.
type model struct {
	states  [][]int // states[p] are the cells at position p
	written []int   // written[p] is the cell of the entry numbered p
	base    int
}

func newModel(cells []int) *model { return &model{states: [][]int{slices.Clone(cells)}} }

func (m *model) mark() int    { return len(m.written) }
func (m *model) cells() []int { return m.states[m.mark()] }

func (m *model) get(i int) int {
	if i < 0 || i >= len(m.cells()) {
		return 0
	}
	return m.cells()[i]
}

func (m *model) set(i, v int) {
	if i < 0 || i >= len(m.cells()) {
		return
	}
	next := slices.Clone(m.cells())
	next[i] = v
	m.states, m.written = append(m.states, next), append(m.written, i)
}

func (m *model) check(mark int) api.Errno {
	if mark < m.base {
		return api.ErrStale
	}
	if mark > m.mark() {
		return api.ErrRange
	}
	return api.OK
}

func (m *model) undo(mark int) api.Errno {
	err := m.check(mark)
	if err == api.OK {
		m.states, m.written = m.states[:mark+1], m.written[:mark]
	}
	return err
}

func (m *model) discard(mark int) api.Errno {
	err := m.check(mark)
	if err == api.OK {
		m.base = mark
	}
	return err
}

// changed asks of every cell whether an entry names it.
func (m *model) changed(mark int) ([]int, api.Errno) {
	if err := m.check(mark); err != api.OK {
		return nil, err
	}
	var l []int
	for i := range m.cells() {
		if slices.Contains(m.written[mark:], i) {
			l = append(l, i)
		}
	}
	return l, api.OK
}

// both is a memory and its model, to which the same is done.
type both struct {
	t    *testing.T
	mem  *cellmem.Mem
	like *model
	done []string
}

func newBoth(t *testing.T, cells ...int) *both {
	return &both{t: t, mem: cellmem.New(cells), like: newModel(cells)}
}

func (b *both) set(i, v int) {
	b.mem.Set(i, v)
	b.like.set(i, v)
}

func (b *both) undo(mark int) {
	b.t.Helper()
	if got, want := b.mem.Undo(mark), b.like.undo(mark); got != want {
		b.t.Errorf("Undo(%d) = %d, want %d", mark, got, want)
	}
}

func (b *both) discard(mark int) {
	b.t.Helper()
	if got, want := b.mem.Discard(mark), b.like.discard(mark); got != want {
		b.t.Errorf("Discard(%d) = %d, want %d", mark, got, want)
	}
}

// changed compares Changed at one mark.
func (b *both) changed(mark int) {
	b.t.Helper()
	got, err := b.mem.Changed(mark)
	if want, wantErr := b.like.changed(mark); err != wantErr || !slices.Equal(got, want) {
		b.t.Errorf("Changed(%d) = %v, %d, want %v, %d", mark, got, err, want, wantErr)
	}
}

// values compares what doesn't hang on a mark.
func (b *both) values() {
	b.t.Helper()
	if got, want := b.mem.Cells(), b.like.cells(); !slices.Equal(got, want) {
		b.t.Errorf("Cells() = %v, want %v", got, want)
	}
	if got, want := b.mem.Len(), len(b.like.cells()); got != want {
		b.t.Errorf("Len() = %d, want %d", got, want)
	}
	if got, want := b.mem.Mark(), b.like.mark(); got != want {
		b.t.Errorf("Mark() = %d, want %d", got, want)
	}
	if got, want := b.mem.Logged(), b.like.mark()-b.like.base; got != want {
		b.t.Errorf("Logged() = %d, want %d", got, want)
	}
	for _, i := range around(-1, b.mem.Len()) {
		if got, want := b.mem.Get(i), b.like.get(i); got != want {
			b.t.Errorf("Get(%d) = %d, want %d", i, got, want)
		}
	}
}

// all compares everything that can be asked.
func (b *both) all() {
	b.t.Helper()
	b.values()
	for _, mark := range around(-1, b.like.mark()+1) {
		b.changed(mark)
	}
}

// around returns the numbers from low to high, and some that are far away.
func around(low, high int) []int {
	l := []int{math.MinInt, math.MinInt + 1, -1 << 32, 1 << 32, math.MaxInt - 1, math.MaxInt}
	for i := low; i <= high; i++ {
		l = append(l, i)
	}
	return l
}

// act undoes, discards or sets, by kind, the rest being sets; two numbers choose the cell, the value or the mark, a little outside too.
func act(b *both, kind, x, y int) {
	b.t.Helper()
	mark := b.like.base - 1 + x%(b.like.mark()-b.like.base+3)
	switch kind {
	case 0:
		b.undo(mark)
	case 1:
		b.discard(mark)
	default:
		b.set(x%(len(b.like.cells())+2)-1, y)
	}
}

func TestP9_1_New(t *testing.T) {
	for _, cells := range [][]int{nil, {}, {0}, {7}, {5, 7}, {math.MinInt, -1, 0, 1, math.MaxInt}, make([]int, 5000)} {
		b := newBoth(t, cells...)
		b.all()
		if b.mem.Mark() != 0 || b.mem.Logged() != 0 {
			t.Errorf("%v: the log is not empty: %d, %d", cells, b.mem.Mark(), b.mem.Logged())
		}
		// The base is 0: it is the only mark that can be used.
		b.undo(0)
		b.discard(0)
		b.undo(-1)
		b.discard(-1)
		b.undo(1)
		b.discard(1)
		b.all()
	}
}

func TestP9_1_Get(t *testing.T) {
	m := cellmem.New([]int{5, 7, -9})
	for _, x := range []struct{ i, want int }{{0, 5}, {1, 7}, {2, -9}, {3, 0}, {-1, 0}, {-2, 0}, {-3, 0}, {1 << 32, 0}, {1<<32 + 1, 0}, {math.MaxInt, 0}, {math.MinInt, 0}} {
		if got := m.Get(x.i); got != x.want {
			t.Errorf("Get(%d) = %d, want %d", x.i, got, x.want)
		}
	}
}

func TestP9_1_Set(t *testing.T) {
	b := newBoth(t, 5, 7, -9)
	for k, x := range []struct{ i, v, position int }{
		{0, 6, 1}, {2, math.MinInt, 2}, {2, math.MaxInt, 3}, {1, 0, 4},
		// The old value again is an entry like any other.
		{1, 0, 5}, {1, 0, 6}, {0, 6, 7}, {0, 5, 8},
		// There are no such cells.
		{3, 1, 8}, {-1, 1, 8}, {-3, 1, 8}, {1 << 32, 1, 8}, {math.MaxInt, 1, 8}, {math.MinInt, 1, 8}, {4, 0, 8},
		{2, -9, 9},
	} {
		b.set(x.i, x.v)
		if b.mem.Mark() != x.position || b.mem.Logged() != x.position {
			t.Errorf("%d: after Set(%d, %d) the position is %d with %d entries, want %d", k, x.i, x.v, b.mem.Mark(), b.mem.Logged(), x.position)
		}
		b.all()
	}
	for _, i := range around(-1, 1) {
		empty := newBoth(t)
		empty.set(i, 3)
		empty.all()
	}
}

func TestP9_2_MarkAndLogged(t *testing.T) {
	m := cellmem.New([]int{1, 2, 3})
	expect := func(what string, mark, logged int) {
		t.Helper()
		if m.Mark() != mark || m.Logged() != logged {
			t.Errorf("%s: Mark() = %d, Logged() = %d, want %d, %d", what, m.Mark(), m.Logged(), mark, logged)
		}
	}
	expect("at the beginning", 0, 0)
	for i := range 10 {
		m.Set(i%3, i)
	}
	expect("ten entries", 10, 10)
	m.Set(3, 1)
	expect("no such cell", 10, 10)
	m.Discard(4)
	expect("four discarded", 10, 6)
	m.Undo(7)
	expect("three undone", 7, 3)
	m.Undo(3)
	m.Discard(8)
	m.Changed(5)
	m.Get(0)
	m.Cells()
	expect("refusals and questions", 7, 3)
	m.Set(0, 1)
	m.Set(0, 1)
	expect("two more", 9, 5)
	m.Discard(9)
	expect("all discarded", 9, 0)
	m.Set(2, 2)
	expect("one more", 10, 1)
	m.Undo(9)
	m.Discard(9)
	expect("empty, above 0", 9, 0)
}

func TestP9_3_Examples(t *testing.T) {
	m := cellmem.New([]int{5, 7})
	m.Set(1, 9)
	m.Set(1, 8)
	for _, x := range []struct {
		mark int
		want api.Errno
		cell int
	}{{3, api.ErrRange, 8}, {-1, api.ErrStale, 8}, {2, api.OK, 8}, {1, api.OK, 9}, {2, api.ErrRange, 9}, {1, api.OK, 9}, {0, api.OK, 7}, {1, api.ErrRange, 7}, {0, api.OK, 7}} {
		if got := m.Undo(x.mark); got != x.want || m.Get(1) != x.cell || m.Get(0) != 5 {
			t.Errorf("Undo(%d) = %d with the cells %v, want %d with [5 %d]", x.mark, got, m.Cells(), x.want, x.cell)
		}
	}
}

// TestP9_3_Newest has several entries of one cell: only the order from the newest to the oldest brings back the first value.
func TestP9_3_Newest(t *testing.T) {
	for mark := range 9 {
		b := newBoth(t, 100, 200)
		for i := range 8 {
			b.set(i/3%2, i)
		}
		b.undo(mark)
		b.all()
		if b.mem.Mark() != mark {
			t.Errorf("after Undo(%d) the position is %d", mark, b.mem.Mark())
		}
	}
}

// TestP9_3_Marks tries marks about the base and the position, and far from them.
func TestP9_3_Marks(t *testing.T) {
	for base := range 7 {
		for position := base; position < 7; position++ {
			for _, mark := range around(-2, 9) {
				b := newBoth(t, 1, 2, 3)
				for i := range 7 {
					b.set(i%3, 10+i)
				}
				b.undo(position)
				b.discard(base)
				b.undo(mark)
				b.all()
			}
		}
	}
}

func TestP9_4_Examples(t *testing.T) {
	m := cellmem.New([]int{5, 7})
	m.Set(1, 9)
	m.Set(1, 8)
	m.Set(0, 6)
	for _, x := range []struct {
		mark   int
		want   api.Errno
		logged int
	}{{4, api.ErrRange, 3}, {-1, api.ErrStale, 3}, {0, api.OK, 3}, {1, api.OK, 2}, {0, api.ErrStale, 2}, {1, api.OK, 2}, {3, api.OK, 0}, {2, api.ErrStale, 0}, {4, api.ErrRange, 0}, {3, api.OK, 0}} {
		if got := m.Discard(x.mark); got != x.want || m.Logged() != x.logged || m.Mark() != 3 || !slices.Equal(m.Cells(), []int{6, 8}) {
			t.Errorf("Discard(%d) = %d with %d entries of %d and the cells %v, want %d with %d of 3 and [6 8]", x.mark, got, m.Logged(), m.Mark(), m.Cells(), x.want, x.logged)
		}
	}
}

func TestP9_4_Marks(t *testing.T) {
	for base := range 7 {
		for position := base; position < 7; position++ {
			for _, mark := range around(-2, 9) {
				b := newBoth(t, 1, 2, 3)
				for i := range 7 {
					b.set(i%3, 10+i)
				}
				b.undo(position)
				b.discard(base)
				b.discard(mark)
				b.all()
				// What was kept still restores.
				b.undo(min(b.like.mark(), b.like.base+1))
				b.all()
				b.undo(b.like.base)
				b.all()
			}
		}
	}
}

func TestP9_5_Examples(t *testing.T) {
	m := cellmem.New([]int{5, 7, 0, 0, 0, 0, 0, 0, 0, 0, 0, 0})
	for _, i := range []int{11, 2, 2, 11, 10, 0, 2, 1, 9, 9} {
		m.Set(i, m.Get(i)) // also where the value stays
	}
	m.Discard(1)
	for _, x := range []struct {
		mark int
		want []int
		err  api.Errno
	}{
		{1, []int{0, 1, 2, 9, 10, 11}, api.OK}, {2, []int{0, 1, 2, 9, 10, 11}, api.OK}, {3, []int{0, 1, 2, 9, 10, 11}, api.OK},
		{4, []int{0, 1, 2, 9, 10}, api.OK}, {5, []int{0, 1, 2, 9}, api.OK}, {6, []int{1, 2, 9}, api.OK}, {7, []int{1, 9}, api.OK}, {8, []int{9}, api.OK}, {9, []int{9}, api.OK}, {10, nil, api.OK},
		{11, nil, api.ErrRange}, {math.MaxInt, nil, api.ErrRange}, {0, nil, api.ErrStale}, {-1, nil, api.ErrStale}, {math.MinInt, nil, api.ErrStale},
	} {
		got, err := m.Changed(x.mark)
		if err != x.err || !slices.Equal(got, x.want) {
			t.Errorf("Changed(%d) = %v, %d, want %v, %d", x.mark, got, err, x.want, x.err)
		}
		if err != api.OK && got != nil {
			t.Errorf("Changed(%d) has a list beside an error", x.mark)
		}
	}
}

// TestP9_5_AfterUndo asks that the undone entries don't count, though their cells have others.
func TestP9_5_AfterUndo(t *testing.T) {
	b := newBoth(t, 0, 0, 0, 0)
	for _, i := range []int{3, 1, 3, 0, 2} {
		b.set(i, i+1)
	}
	for mark := 5; mark >= 0; mark-- {
		b.undo(mark)
		b.all()
	}
	b.set(2, 2)
	b.all()
}

// TestP9_5_Many has a great number of entries, of few cells and of many.
func TestP9_5_Many(t *testing.T) {
	const entries = 200000
	for _, n := range []int{1, 3, 1000, entries} {
		m := cellmem.New(make([]int, n))
		for i := range entries {
			m.Set(i*7919%n, i)
		}
		for _, mark := range []int{0, 1, entries / 2, entries - 3, entries} {
			var want []int
			seen := make([]int, n)
			for i := mark; i < entries; i++ {
				seen[i*7919%n] = 1
			}
			for i, s := range seen {
				if s == 1 {
					want = append(want, i)
				}
			}
			if got, err := m.Changed(mark); err != api.OK || !slices.Equal(got, want) {
				t.Errorf("%d cells: Changed(%d) has %d cells, %d; want %d", n, mark, len(got), err, len(want))
			}
		}
	}
}

// TestP9_6_Small tries every sequence of four steps on two cells, and asks everything after each.
func TestP9_6_Small(t *testing.T) {
	const kinds = 14
	for code := range kinds * kinds * kinds * kinds {
		b := newBoth(t, 5, 7)
		for rest, left := code, 4; left > 0; rest, left = rest/kinds, left-1 {
			switch kind := rest % kinds; {
			case kind < 4:
				b.set(kind%2, 5+kind/2*2)
			case kind < 9:
				b.undo(kind - 5)
			default:
				b.discard(kind - 10)
			}
			b.values()
		}
		b.all()
		if t.Failed() {
			t.Fatalf("sequence %d", code)
		}
	}
}

func TestP9_6_Random(t *testing.T) {
	r := rand.New(rand.NewSource(9))
	for run := range 300 {
		cells := make([]int, r.Intn(6))
		for i := range cells {
			cells[i] = r.Intn(5)
		}
		b := newBoth(t, cells...)
		sets := 3 + r.Intn(20)
		for range 200 {
			act(b, r.Intn(sets), r.Intn(1000), r.Intn(5))
			b.values()
			b.changed(b.like.base + r.Intn(b.like.mark()-b.like.base+1))
		}
		b.all()
		if t.Failed() {
			t.Fatalf("run %d", run)
		}
	}
}

// TestP9_6_Restored keeps the cells of every mark beside the memory and asks that Undo brings back just these.
func TestP9_6_Restored(t *testing.T) {
	type kept struct {
		mark  int
		cells []int
	}
	r := rand.New(rand.NewSource(96))
	for range 200 {
		m := cellmem.New([]int{1, 2, 3, 4, 5})
		var marks []kept
		for range 60 {
			switch k := r.Intn(8); {
			case k == 0:
				marks = append(marks, kept{m.Mark(), m.Cells()})
			case k == 1 && len(marks) > 0:
				i := r.Intn(len(marks))
				if err := m.Undo(marks[i].mark); err != api.OK || !slices.Equal(m.Cells(), marks[i].cells) || m.Mark() != marks[i].mark {
					t.Errorf("Undo(%d) = %d with the cells %v at position %d, want %v", marks[i].mark, err, m.Cells(), m.Mark(), marks[i].cells)
				}
				marks = marks[:i+1]
			case k == 2 && len(marks) > 0 && r.Intn(3) == 0:
				i := r.Intn(len(marks))
				if err := m.Discard(marks[i].mark); err != api.OK {
					t.Errorf("Discard(%d) = %d", marks[i].mark, err)
				}
				for _, old := range marks[:i] {
					if old.mark == marks[i].mark {
						continue
					}
					if err := m.Undo(old.mark); err != api.ErrStale {
						t.Errorf("Undo(%d) = %d after Discard(%d)", old.mark, err, marks[i].mark)
					}
				}
				marks = marks[i:]
			default:
				m.Set(r.Intn(5), r.Intn(9))
			}
		}
	}
}

// TestP9_6_AsIfNeverHappened compares a memory with undone entries with one that never had them.
func TestP9_6_AsIfNeverHappened(t *testing.T) {
	r := rand.New(rand.NewSource(960))
	for range 200 {
		with, without := cellmem.New([]int{9, 8, 7}), cellmem.New([]int{9, 8, 7})
		for range 30 {
			for range r.Intn(4) {
				i, v := r.Intn(3), r.Intn(4)
				with.Set(i, v)
				without.Set(i, v)
			}
			mark := with.Mark()
			for range r.Intn(9) {
				with.Set(r.Intn(3), r.Intn(4))
			}
			if err := with.Undo(mark); err != api.OK {
				t.Fatalf("Undo(%d) = %d", mark, err)
			}
		}
		for mark := with.Mark(); mark >= 0; mark-- {
			a, errA := with.Changed(mark)
			b, errB := without.Changed(mark)
			if with.Mark() != without.Mark() || !slices.Equal(with.Cells(), without.Cells()) || errA != errB || !slices.Equal(a, b) {
				t.Fatalf("at %d: %v at %d with %v changed, without the undone %v at %d with %v", mark, with.Cells(), with.Mark(), a, without.Cells(), without.Mark(), b)
			}
			if mark > 0 {
				with.Undo(mark - 1)
				without.Undo(mark - 1)
			}
		}
	}
}

func TestP9_7_Unchanged(t *testing.T) {
	r := rand.New(rand.NewSource(97))
	for range 300 {
		m := cellmem.New([]int{1, 2, 3, 4, 5, 6})
		states := [][]int{m.Cells()}
		for range 12 {
			m.Set(r.Intn(6), r.Intn(4))
			states = append(states, m.Cells())
		}
		for mark, state := range states {
			changed, err := m.Changed(mark)
			if err != api.OK {
				t.Errorf("Changed(%d): %d", mark, err)
			}
			for i, v := range state {
				if !slices.Contains(changed, i) && m.Get(i) != v {
					t.Errorf("cell %d was %d at mark %d and is %d, but is not in %v", i, v, mark, m.Get(i), changed)
				}
			}
		}
	}
}

// TestP9_7_Discard asks every mark after every possible Discard.
func TestP9_7_Discard(t *testing.T) {
	const entries = 6
	for base := range entries + 1 {
		for mark := range entries + 1 {
			m := cellmem.New([]int{1, 2})
			states := [][]int{m.Cells()}
			for i := range entries {
				m.Set(i%2, 10*i)
				states = append(states, m.Cells())
			}
			if err := m.Discard(base); err != api.OK || !slices.Equal(m.Cells(), states[entries]) {
				t.Errorf("Discard(%d) = %d with the cells %v, want %v", base, err, m.Cells(), states[entries])
			}
			want, cells := api.OK, states[mark]
			if mark < base {
				want, cells = api.ErrStale, states[entries]
			}
			if _, err := m.Changed(mark); err != want {
				t.Errorf("Changed(%d) after Discard(%d): %d, want %d", mark, base, err, want)
			}
			if err := m.Undo(mark); err != want || !slices.Equal(m.Cells(), cells) {
				t.Errorf("Undo(%d) after Discard(%d) = %d with the cells %v, want %d with %v", mark, base, err, m.Cells(), want, cells)
			}
		}
	}
}

// TestP9_7_Window discards the oldest entries again and again, as a match does: what is kept stays usable.
func TestP9_7_Window(t *testing.T) {
	for _, width := range []int{0, 1, 2, 7, 30} {
		b := newBoth(t, 1, 2, 3)
		for i := range 400 {
			b.set(i%3, i*i%11)
			if i%2 == 0 {
				b.discard(max(b.like.base, b.like.mark()-width))
			}
			if i%5 == 0 && width > 3 {
				b.undo(b.like.mark() - 3)
			}
			b.values()
			b.changed(b.like.base)
		}
		b.undo(b.like.base)
		b.values()
	}
}

// heap returns the number of bytes that are in use.
func heap() uint64 {
	runtime.GC()
	var s runtime.MemStats
	runtime.ReadMemStats(&s)
	return s.HeapAlloc
}

// TestKeptMemory holds the program to keeping no more than its promises need: what was discarded may be forgotten.
func TestKeptMemory(t *testing.T) {
	const entries, limit = 1 << 20, 1 << 20
	for _, kept := range []int{0, 1, 5} {
		m := cellmem.New([]int{0})
		before := heap()
		for i := range entries {
			m.Set(0, i+1)
		}
		m.Discard(entries - kept)
		if after := heap(); after > before+limit {
			t.Errorf("%d entries take %d bytes", kept, after-before)
		}
		if m.Undo(entries-kept) != api.OK || m.Get(0) != entries-kept {
			t.Errorf("%d entries kept: cell 0 is %d", kept, m.Get(0))
		}
	}
}

// TestManyDiscards would take minutes if every Discard copied what it keeps.
func TestManyDiscards(t *testing.T) {
	const entries = 1 << 20
	m := cellmem.New([]int{0})
	for i := range entries {
		m.Set(0, i+1)
	}
	for i := range entries - 1 {
		if err := m.Discard(i + 1); err != api.OK {
			t.Fatalf("Discard(%d) = %d", i+1, err)
		}
	}
	if m.Logged() != 1 || m.Undo(entries-1) != api.OK || m.Get(0) != entries-1 {
		t.Errorf("%d entries, cell 0 is %d", m.Logged(), m.Get(0))
	}
}

// TestArgumentsStay is rule R4: the memory neither changes nor keeps the cells it is given, nor their spare capacity.
func TestArgumentsStay(t *testing.T) {
	given := []int{1, 2, 3, 40, 50}
	m := cellmem.New(given[:3])
	m.Set(0, 10)
	m.Set(2, 30)
	m.Undo(1)
	if !slices.Equal(given, []int{1, 2, 3, 40, 50}) {
		t.Errorf("the argument became %v", given)
	}
	given[0], given[1] = 7, 7
	if !slices.Equal(m.Cells(), []int{10, 2, 3}) {
		t.Errorf("the cells became %v with the argument", m.Cells())
	}
	m.Undo(0)
	if !slices.Equal(m.Cells(), []int{1, 2, 3}) {
		t.Errorf("the cells were restored to %v", m.Cells())
	}
}

// TestNewResults is rules R4 and R5: what a call returns is nobody else's, and two memories share nothing.
func TestNewResults(t *testing.T) {
	m := cellmem.New([]int{1, 2, 3})
	other := cellmem.New(m.Cells())
	m.Set(1, 5)
	m.Set(2, 6)
	cells := m.Cells()
	changed, _ := m.Changed(0)
	again, _ := m.Changed(0)
	cells = append(cells[:2], 9, 9)
	changed = append(changed[:1], 9, 9)
	cells[0], changed[0] = 9, 9
	if !slices.Equal(m.Cells(), []int{1, 5, 6}) || !slices.Equal(again, []int{1, 2}) {
		t.Errorf("results share memory: %v, %v", m.Cells(), again)
	}
	later := m.Cells()
	m.Set(0, 8)
	m.Undo(0)
	if got, _ := m.Changed(0); len(got) != 0 || !slices.Equal(later, []int{1, 5, 6}) || !slices.Equal(again, []int{1, 2}) {
		t.Errorf("results changed later: %v, %v", later, again)
	}
	if other.Mark() != 0 || !slices.Equal(other.Cells(), []int{1, 2, 3}) {
		t.Errorf("the other memory became %v", other.Cells())
	}
}
