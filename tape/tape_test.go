package tape

import (
	"errors"
	"math"
	"slices"
	"testing"

	"sigillum/api"
)

// model is a tape worked out anew by every question, out of its list and the number of draws.
type model struct {
	list  []uint64
	draws int
}

func (m *model) taken() int { return min(m.draws, len(m.list)) }

func (m *model) left() int { return len(m.list) - m.taken() }

func (m *model) draw() (uint64, bool) {
	m.draws++
	if m.draws > len(m.list) {
		return 0, false
	}
	return m.list[m.draws-1] % (1 << 48), true
}

func (m *model) apart() bool {
	drawn := m.list[:m.taken()]
	for i := range drawn {
		for j := range i {
			if drawn[i]%(1<<48) == drawn[j]%(1<<48) {
				return false
			}
		}
	}
	return true
}

// see holds what a tape tells against the model, twice: to ask changes nothing.
func see(t *testing.T, x *Tape, m *model) {
	t.Helper()
	for range 2 {
		if got, want := x.Taken(), m.taken(); got != want {
			t.Fatalf("%x, %d draws: Taken %d, want %d", m.list, m.draws, got, want)
		}
		if got, want := x.Left(), m.left(); got != want {
			t.Fatalf("%x, %d draws: Left %d, want %d", m.list, m.draws, got, want)
		}
		if got, want := x.Apart(), m.apart(); got != want {
			t.Fatalf("%x, %d draws: Apart %v, want %v", m.list, m.draws, got, want)
		}
	}
}

// draw draws once, and holds the answer against the model.
func draw(t *testing.T, x *Tape, m *model) {
	t.Helper()
	want, ok := m.draw()
	got, err := x.Draw()
	if ok && (got != want || err != nil) {
		t.Fatalf("%x, draw %d: %x, %v, want %x", m.list, m.draws, got, err, want)
	}
	if !ok && (got != 0 || !errors.Is(err, api.ErrTape)) {
		t.Fatalf("%x, draw %d: %x, %v, want 0 and ErrTape", m.list, m.draws, got, err)
	}
}

// through draws a list to its end and beyond, and looks at all ahead of, between and behind the draws.
func through(t *testing.T, list []uint64) {
	t.Helper()
	x, m := Of(list), &model{list: slices.Clone(list)}
	see(t, x, m)
	for range len(list) + 3 {
		draw(t, x, m)
		see(t, x, m)
	}
}

// P5.1, P5.2: the chapter's example.
func TestExample(t *testing.T) {
	x := Of([]uint64{1, 2, 1})
	for k, want := range []struct {
		entry uint64
		apart bool
	}{{1, true}, {2, true}, {1, false}} {
		if v, err := x.Draw(); v != want.entry || err != nil || x.Apart() != want.apart {
			t.Errorf("draw %d: %d, %v, Apart %v", k, v, err, x.Apart())
		}
	}
	if v, err := x.Draw(); v != 0 || !errors.Is(err, api.ErrTape) {
		t.Errorf("at the end: %d, %v", v, err)
	}
}

// P5.1: a tape without entries.
func TestNoEntries(t *testing.T) {
	for name, x := range map[string]*Tape{"nil": Of(nil), "empty": Of([]uint64{}), "no part of more": Of([]uint64{1, 2}[:0])} {
		for k := range 4 {
			if x.Taken() != 0 || x.Left() != 0 || !x.Apart() {
				t.Errorf("%s, %d draws: Taken %d, Left %d, Apart %v", name, k, x.Taken(), x.Left(), x.Apart())
			}
			if v, err := x.Draw(); v != 0 || !errors.Is(err, api.ErrTape) {
				t.Errorf("%s, draw %d: %d, %v", name, k, v, err)
			}
		}
	}
}

// P5.1: each entry is cut; its numbers are written out by hand.
func TestCut(t *testing.T) {
	for _, c := range []struct{ entry, want uint64 }{
		{0, 0},
		{1, 1},
		{1<<47 + 5, 0x800000000005},
		{1<<48 - 2, 0xfffffffffffe},
		{1<<48 - 1, 0xffffffffffff},
		{1 << 48, 0},
		{1<<48 + 1, 1},
		{1<<49 - 1, 0xffffffffffff},
		{0x123456789abcdef0, 0x56789abcdef0},
		{1 << 63, 0},
		{math.MaxUint64 - 1, 0xfffffffffffe},
		{math.MaxUint64, 0xffffffffffff},
	} {
		if v, err := Of([]uint64{c.entry}).Draw(); v != c.want || err != nil {
			t.Errorf("%x: %x, %v, want %x", c.entry, v, err, c.want)
		}
		// Behind another entry, and ahead of one.
		x := Of([]uint64{5, c.entry, 6})
		for k, want := range []uint64{5, c.want, 6} {
			if v, err := x.Draw(); v != want || err != nil {
				t.Errorf("5, %x, 6, draw %d: %x, %v, want %x", c.entry, k, v, err, want)
			}
		}
	}
}

// P5.1: every bit of an entry is kept or cut.
func TestBits(t *testing.T) {
	for i := range 64 {
		want := uint64(0)
		if i < 48 {
			want = 1 << i
		}
		if v, err := Of([]uint64{1 << i}).Draw(); v != want || err != nil {
			t.Errorf("bit %d: %x, %v, want %x", i, v, err, want)
		}
	}
}

// P5.1: an entry of 0 is a draw like others: it is no end.
func TestZeroEntries(t *testing.T) {
	x := Of([]uint64{0, 1 << 48, 0})
	for k := range 3 {
		if v, err := x.Draw(); v != 0 || err != nil || x.Taken() != k+1 || x.Left() != 2-k {
			t.Errorf("draw %d: %d, %v, Taken %d, Left %d", k, v, err, x.Taken(), x.Left())
		}
	}
	if v, err := x.Draw(); v != 0 || !errors.Is(err, api.ErrTape) {
		t.Errorf("at the end: %d, %v", v, err)
	}
}

// P5.1: draws at the end, once and often, change nothing.
func TestEnd(t *testing.T) {
	for _, c := range []struct {
		list  []uint64
		apart bool
	}{{[]uint64{4}, true}, {[]uint64{4, 5}, true}, {[]uint64{4, 4}, false}, {[]uint64{4, 5, 4, 6}, false}} {
		x := Of(c.list)
		for range c.list {
			if _, err := x.Draw(); err != nil {
				t.Fatalf("%d: %v ahead of the end", c.list, err)
			}
		}
		for k := range 1000 {
			v, err := x.Draw()
			if v != 0 || !errors.Is(err, api.ErrTape) || api.Number(err) != api.ErrTape {
				t.Fatalf("%d, draw %d at the end: %d, %v", c.list, k, v, err)
			}
			if x.Taken() != len(c.list) || x.Left() != 0 || x.Apart() != c.apart {
				t.Fatalf("%d, draw %d at the end: Taken %d, Left %d, Apart %v", c.list, k, x.Taken(), x.Left(), x.Apart())
			}
		}
	}
}

// P5.1: how many are taken and left, by hand.
func TestTakenLeft(t *testing.T) {
	x := Of([]uint64{9, 8, 7})
	for k, want := range []struct{ taken, left int }{{0, 3}, {1, 2}, {2, 1}, {3, 0}, {3, 0}, {3, 0}} {
		if x.Taken() != want.taken || x.Left() != want.left {
			t.Errorf("%d draws: Taken %d, Left %d, want %v", k, x.Taken(), x.Left(), want)
		}
		x.Draw()
	}
}

// P5.2: by hand, after which number of draws a tape is not apart any more (0: it stays so).
func TestApart(t *testing.T) {
	for _, c := range []struct {
		name  string
		list  []uint64
		until int
	}{
		{"one", []uint64{3}, 0},
		{"zero", []uint64{0}, 0},
		{"unlike", []uint64{3, 1, 2, 0, 5}, 0},
		{"next to one another, first", []uint64{3, 3, 1, 2}, 2},
		{"next to one another, last", []uint64{1, 2, 3, 3}, 4},
		{"far from one another", []uint64{3, 1, 2, 4, 5, 6, 3}, 7},
		{"far within", []uint64{0, 3, 1, 2, 3, 9}, 5},
		{"zeros", []uint64{0, 0}, 2},
		{"zeros far", []uint64{0, 1, 2, 0}, 4},
		{"greatest", []uint64{1<<48 - 1, 0, 1<<48 - 1}, 3},
		{"alike when cut", []uint64{5, 1<<48 + 5}, 2},
		{"alike when cut, the long one first", []uint64{1<<63 + 5, 5}, 2},
		{"alike when cut, both long", []uint64{1<<48 + 5, 1<<49 + 5}, 2},
		{"zero when cut", []uint64{0, 7, 1 << 48}, 3},
		{"greatest when cut", []uint64{math.MaxUint64, 7, 1<<48 - 1}, 3},
		{"unlike in the last bit", []uint64{1<<48 - 1, 1<<48 - 2}, 0},
		{"unlike in the first bit", []uint64{1, 1<<47 + 1}, 0},
		{"the like one behind another like one", []uint64{1, 2, 2, 1}, 3},
		{"two pairs", []uint64{1, 2, 1, 2}, 3},
		{"three", []uint64{4, 4, 4}, 2},
	} {
		x := Of(c.list)
		for k := 0; ; k++ {
			want := c.until == 0 || k < c.until
			if x.Apart() != want {
				t.Errorf("%s: %x, %d draws: Apart %v", c.name, c.list, k, x.Apart())
			}
			if _, err := x.Draw(); err != nil {
				break
			}
		}
	}
}

// P5.1, P5.2: every list of up to five entries, of those that the edges are made of.
func TestShortLists(t *testing.T) {
	of := []uint64{0, 1, 1<<48 - 1, 1 << 48, 1<<48 + 1, math.MaxUint64}
	lists := [][]uint64{nil}
	for from := 0; from < len(lists); from++ {
		through(t, lists[from])
		if len(lists[from]) == 5 {
			continue
		}
		for _, entry := range of {
			lists = append(lists, append(slices.Clone(lists[from]), entry))
		}
	}
}

// P5.2: one like pair at every two places of a longer list, and none.
func TestEachPair(t *testing.T) {
	const length = 40
	list := make([]uint64, length)
	for k := range list {
		// From the 33rd on they have more than 48 bits; the sum keeps them unlike when they are cut.
		list[k] = uint64(k)<<43 + uint64(k)
	}
	through(t, list)
	for second := range length {
		for first := range second {
			like := slices.Clone(list)
			like[second] = like[first] + 1<<48
			x := Of(like)
			for k := 0; k <= length; k++ {
				if x.Apart() != (k <= second) {
					t.Fatalf("like at %d and %d, %d draws: Apart %v", first, second, k, x.Apart())
				}
				x.Draw()
			}
		}
	}
}

// P5.1, P5.2: lists of some kinds of which many begin their search near one another.
func TestKindsOfLists(t *testing.T) {
	next := uint64(1)
	for _, length := range []int{6, 17, 64, 257} {
		for shift := 0; shift < 64; shift += 5 {
			steps, strewn := make([]uint64, length), make([]uint64, length)
			for k := range length {
				steps[k] = uint64(k) << shift
				next = next*6364136223846793005 + 1442695040888963407
				strewn[k] = next >> shift
			}
			through(t, steps)
			through(t, strewn)
			slices.Reverse(steps)
			through(t, steps)
		}
	}
}

// W1: a long tape is made and asked in a time that grows as it does.
func TestLong(t *testing.T) {
	const length = 1 << 20
	// Of a step as great as the number of slots all entries have one rest.
	for _, step := range []uint64{1, 2, 1 << 7, 1 << 17, 1 << 28, 2*length + 1} {
		list := make([]uint64, length)
		for k := range list {
			list[k] = uint64(k) * step
		}
		list[length-1] = list[length/2]
		x := Of(list)
		for k := range length {
			v, err := x.Draw()
			if v != list[k] || err != nil || x.Taken() != k+1 || x.Left() != length-k-1 || x.Apart() != (k < length-1) {
				t.Fatalf("step %d, draw %d: %x, %v, Taken %d, Left %d, Apart %v", step, k, v, err, x.Taken(), x.Left(), x.Apart())
			}
		}
	}
}

// W6: the entries are changed behind Of, ahead of the draws and between them.
func TestListChanged(t *testing.T) {
	room := []uint64{1, 2, 3, 4, 5, 6}
	list := room[:3]
	x, m := Of(list), &model{list: []uint64{1, 2, 3}}
	for k := range room {
		room[k] = 1
	}
	see(t, x, m)
	for k := range 5 {
		draw(t, x, m)
		see(t, x, m)
		for i := range room {
			room[i] = uint64(k) + 2
		}
	}
}

// W6: like ones stay like ones, when the list has none any more.
func TestListMadeApart(t *testing.T) {
	list := []uint64{8, 8}
	x := Of(list)
	x.Draw()
	list[0], list[1] = 9, 10
	if v, err := x.Draw(); v != 8 || err != nil || x.Apart() {
		t.Errorf("%d, %v, Apart %v", v, err, x.Apart())
	}
}

// W6: a list with room behind its length is not changed, not even where it is cut.
func TestListLeft(t *testing.T) {
	room := []uint64{1<<48 + 1, math.MaxUint64, 1 << 48, 1<<48 + 1, 77, 78}
	before := slices.Clone(room)
	x := Of(room[:4])
	for range 6 {
		x.Draw()
		x.Apart()
	}
	if !slices.Equal(room, before) {
		t.Errorf("%x became %x", before, room)
	}
}

// W6: two tapes of one list are drawn from each by itself.
func TestTwoTapes(t *testing.T) {
	list := []uint64{6, 1<<48 + 6, 7}
	x, y := Of(list), Of(list)
	first, second := &model{list: list}, &model{list: list}
	for range 5 {
		draw(t, x, first)
		see(t, x, first)
		see(t, y, second)
	}
	for range 5 {
		draw(t, y, second)
		see(t, y, second)
		see(t, x, first)
	}
}
