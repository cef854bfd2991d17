package segment

import (
	"bytes"
	"errors"
	"math"
	"slices"
	"strconv"
	"testing"

	"sigillum/api"
)

// model is a store as a number of pages and, of each segment, its bytes.
type model struct {
	pages    int
	segments map[int][]byte
}

func modelOf(n int) *model {
	if n < 0 {
		n = 0
	}
	if n > 4096 {
		n = 4096
	}
	return &model{pages: n, segments: map[int][]byte{}}
}

// need is how many pages hold so many bytes, counted one by one.
func need(size int) int {
	n := 0
	for n*64 < size {
		n++
	}
	return n
}

func (m *model) left() int {
	left := m.pages
	for _, b := range m.segments {
		left -= need(len(b))
	}
	return left
}

func (m *model) create(size int) (int, error) {
	switch {
	case size < 0, size > 262144:
		return 0, api.ErrArgument
	case len(m.segments) >= 64:
		return 0, api.ErrFull
	case need(size) > m.left():
		return 0, api.ErrMemory
	}
	id := 0
	for m.segments[id] != nil {
		id++
	}
	m.segments[id] = make([]byte, size)
	return id, nil
}

func (m *model) delete(id int) error {
	if m.segments[id] == nil {
		return api.ErrNotFound
	}
	delete(m.segments, id)
	return nil
}

func (m *model) size(id int) (int, error) {
	if m.segments[id] == nil {
		return 0, api.ErrNotFound
	}
	return len(m.segments[id]), nil
}

func (m *model) grow(id, size int) error {
	b := m.segments[id]
	switch {
	case b == nil:
		return api.ErrNotFound
	case size < len(b), size > 262144:
		return api.ErrArgument
	case need(size)-need(len(b)) > m.left():
		return api.ErrMemory
	}
	m.segments[id] = append(make([]byte, 0, size), append(bytes.Clone(b), make([]byte, size-len(b))...)...)
	return nil
}

func (m *model) wrong(id, at, n int) error {
	b := m.segments[id]
	if b == nil {
		return api.ErrNotFound
	}
	for _, x := range []int{at, n, at + n} {
		if x < 0 || x > len(b) {
			return api.ErrBounds
		}
	}
	return nil
}

func (m *model) read(id, at, n int) ([]byte, error) {
	if err := m.wrong(id, at, n); err != nil {
		return nil, err
	}
	return m.segments[id][at : at+n], nil
}

func (m *model) write(id, at int, b []byte) error {
	if err := m.wrong(id, at, len(b)); err != nil {
		return err
	}
	copy(m.segments[id][at:], b)
	return nil
}

// pair is a store, and the model of it.
type pair struct {
	x *Store
	m *model
}

func over(n int) pair { return pair{Of(n), modelOf(n)} }

// like tells whether an error is the one that is asked for, or none where none is.
func like(err, want error) bool {
	if want == nil {
		return err == nil
	}
	return errors.Is(err, want) && api.Number(err) == api.Number(want)
}

func (p pair) create(t *testing.T, size int) {
	t.Helper()
	want, wrong := p.m.create(size)
	if got, err := p.x.Create(size); got != want || !like(err, wrong) {
		t.Fatalf("Create(%d): %d, %v, want %d, %v", size, got, err, want, wrong)
	}
}

func (p pair) delete(t *testing.T, id int) {
	t.Helper()
	wrong := p.m.delete(id)
	if err := p.x.Delete(id); !like(err, wrong) {
		t.Fatalf("Delete(%d): %v, want %v", id, err, wrong)
	}
}

func (p pair) size(t *testing.T, id int) {
	t.Helper()
	want, wrong := p.m.size(id)
	if got, err := p.x.Size(id); got != want || !like(err, wrong) {
		t.Fatalf("Size(%d): %d, %v, want %d, %v", id, got, err, want, wrong)
	}
}

func (p pair) grow(t *testing.T, id, size int) {
	t.Helper()
	wrong := p.m.grow(id, size)
	if err := p.x.Grow(id, size); !like(err, wrong) {
		t.Fatalf("Grow(%d, %d): %v, want %v", id, size, err, wrong)
	}
}

func (p pair) read(t *testing.T, id, at, n int) {
	t.Helper()
	want, wrong := p.m.read(id, at, n)
	got, err := p.x.Read(id, at, n)
	if !bytes.Equal(got, want) || !like(err, wrong) {
		t.Fatalf("Read(%d, %d, %d): %x, %v, want %x, %v", id, at, n, got, err, want, wrong)
	}
}

func (p pair) write(t *testing.T, id, at int, b []byte) {
	t.Helper()
	wrong := p.m.write(id, at, b)
	if err := p.x.Write(id, at, b); !like(err, wrong) {
		t.Fatalf("Write(%d, %d, %d bytes): %v, want %v", id, at, len(b), err, wrong)
	}
}

// see holds all that a store tells against the model: how many pages are left, and size and all bytes of each number up to behind the last one that a segment has.
func (p pair) see(t *testing.T) {
	t.Helper()
	if got, want := p.x.Left(), p.m.left(); got != want {
		t.Fatalf("Left: %d, want %d", got, want)
	}
	last := 1
	for id := range p.m.segments {
		last = max(last, id+1)
	}
	for id := -1; id <= last; id++ {
		p.size(t, id)
		p.read(t, id, 0, len(p.m.segments[id]))
	}
}

// marks is so many bytes, none 0, that begin otherwise for each of many numbers, and are no page's length apart the same.
func marks(k, n int) []byte {
	b := make([]byte, n)
	for i := range b {
		b[i] = byte(1 + (k*17+i)%251)
	}
	return b
}

// filled is a pair of so many pages, with a segment of each size, all of its bytes written.
func filled(t *testing.T, n int, sizes ...int) pair {
	t.Helper()
	p := over(n)
	for id, size := range sizes {
		p.create(t, size)
		p.write(t, id, 0, marks(id, size))
	}
	p.see(t)
	return p
}

// far is numbers at and beyond all bounds, and those whose sums go round.
var far = []int{math.MinInt, math.MinInt + 1, math.MinInt + 63, math.MinInt + 64, math.MinInt + 262144, math.MinInt32, -262145, -262144, -65, -64, -63, -1, 0, 1, 2, 62, 63, 64, 65, 127, 128, 129, 199, 200, 201, 256, 4096, 262143, 262144, 262145, 1 << 20, math.MaxInt32, 1 << 32, 1<<32 + 1, math.MaxInt - 262144, math.MaxInt - 64, math.MaxInt - 63, math.MaxInt - 1, math.MaxInt}

// sizes is those at the edges of pages, and how many pages hold them.
var sizes = []struct{ size, pages int }{
	{0, 0}, {1, 1}, {2, 1}, {63, 1}, {64, 1}, {65, 2}, {127, 2}, {128, 2}, {129, 3}, {191, 3}, {192, 3}, {193, 4},
	{4095, 64}, {4096, 64}, {4097, 65}, {65535, 1024}, {65536, 1024}, {65537, 1025}, {262079, 4095}, {262080, 4095}, {262081, 4096}, {262143, 4096}, {262144, 4096},
}

// P9.1, P9.3: the chapter's example.
func TestExample(t *testing.T) {
	x := Of(2)
	if id, err := x.Create(65); id != 0 || err != nil || x.Left() != 0 {
		t.Errorf("Create(65): %d, %v, Left %d", id, err, x.Left())
	}
	if id, err := x.Create(1); id != 0 || !like(err, api.ErrMemory) {
		t.Errorf("Create(1): %d, %v", id, err)
	}
	if err := x.Write(0, 60, []byte("abcde")); err != nil {
		t.Errorf("Write over both pages: %v", err)
	}
	if b, err := x.Read(0, 59, 6); string(b) != "\x00abcde" || err != nil {
		t.Errorf("Read over both pages: %q, %v", b, err)
	}
	// Ten bytes from 60 on, as the example says them, end behind a segment of 65: one of 70 bytes has as many pages, and holds them.
	if err := x.Write(0, 60, []byte("0123456789")); !like(err, api.ErrBounds) {
		t.Errorf("Write beyond the end: %v", err)
	}
	if err := x.Grow(0, 70); err != nil || x.Left() != 0 {
		t.Errorf("Grow(0, 70): %v, Left %d", err, x.Left())
	}
	if err := x.Write(0, 60, []byte("0123456789")); err != nil {
		t.Errorf("Write of ten bytes: %v", err)
	}
	if b, err := x.Read(0, 60, 10); string(b) != "0123456789" || err != nil {
		t.Errorf("Read of ten bytes: %q, %v", b, err)
	}
}

// P9.1: a store without segments, of n pages: of less than 0 none, of more than 4096 so many.
func TestOf(t *testing.T) {
	for _, c := range []struct{ n, want int }{
		{math.MinInt, 0}, {-4096, 0}, {-1, 0}, {0, 0}, {1, 1}, {2, 2}, {63, 63}, {64, 64}, {65, 65}, {4095, 4095}, {4096, 4096},
		{4097, 4096}, {262144, 4096}, {1 << 32, 4096}, {1<<32 + 1, 4096}, {math.MaxInt, 4096},
	} {
		x := Of(c.n)
		if x.Left() != c.want {
			t.Errorf("Of(%d): Left %d, want %d", c.n, x.Left(), c.want)
		}
		for _, id := range []int{-1, 0, 1, 63, 64} {
			if n, err := x.Size(id); n != 0 || !like(err, api.ErrNotFound) {
				t.Errorf("Of(%d): Size(%d): %d, %v", c.n, id, n, err)
			}
		}
		if c.want*64 < 262144 {
			if id, err := x.Create(c.want*64 + 1); id != 0 || !like(err, api.ErrMemory) || x.Left() != c.want {
				t.Errorf("Of(%d): Create of one byte too many: %d, %v, Left %d", c.n, id, err, x.Left())
			}
		}
		if id, err := x.Create(c.want * 64); id != 0 || err != nil || x.Left() != 0 {
			t.Errorf("Of(%d): Create of all: %d, %v, Left %d", c.n, id, err, x.Left())
		}
	}
}

// P9.1: a segment takes as many pages as hold its bytes, all of them 0; of just as many pages it is made, of one too few it is not.
func TestSizes(t *testing.T) {
	for _, c := range sizes {
		for _, n := range []int{4096, c.pages, c.pages - 1} {
			x := Of(n)
			if n < 0 {
				continue
			}
			id, err := x.Create(c.size)
			if n < c.pages {
				if id != 0 || !like(err, api.ErrMemory) || x.Left() != n {
					t.Errorf("Create(%d) in %d pages: %d, %v, Left %d", c.size, n, id, err, x.Left())
				}
				if k, err := x.Size(0); k != 0 || !like(err, api.ErrNotFound) {
					t.Errorf("Create(%d) in %d pages, Size: %d, %v", c.size, n, k, err)
				}
				continue
			}
			if id != 0 || err != nil || x.Left() != n-c.pages {
				t.Errorf("Create(%d) in %d pages: %d, %v, Left %d", c.size, n, id, err, x.Left())
			}
			if k, err := x.Size(0); k != c.size || err != nil {
				t.Errorf("Create(%d), Size: %d, %v", c.size, k, err)
			}
			if b, err := x.Read(0, 0, c.size); !bytes.Equal(b, make([]byte, c.size)) || err != nil {
				t.Errorf("Create(%d), Read: %d bytes, %v", c.size, len(b), err)
			}
			if b, err := x.Read(0, 0, c.size+1); len(b) != 0 || !like(err, api.ErrBounds) {
				t.Errorf("Create(%d), Read of one more: %d bytes, %v", c.size, len(b), err)
			}
			if err := x.Delete(0); err != nil || x.Left() != n {
				t.Errorf("Create(%d), Delete: %v, Left %d", c.size, err, x.Left())
			}
		}
	}
}

// P9.1: sizes that no segment has, and nothing changes by them.
func TestCreateWrong(t *testing.T) {
	p := filled(t, 4096, 200)
	for _, size := range far {
		if size >= 0 && size <= 262144 {
			continue
		}
		if id, err := p.x.Create(size); id != 0 || !like(err, api.ErrArgument) {
			t.Errorf("Create(%d): %d, %v", size, id, err)
		}
		p.see(t)
	}
}

// P9.1: which error comes first: of a size that there is none of, of a full table, of pages that are not left.
func TestCreateOrder(t *testing.T) {
	full := over(2)
	for range 64 {
		full.create(t, 0)
	}
	fullOfAll := over(2)
	fullOfAll.create(t, 128)
	for range 63 {
		fullOfAll.create(t, 0)
	}
	noRoom := over(2)
	noRoom.create(t, 128)
	for _, c := range []struct {
		p    pair
		size int
		want error
	}{
		{full, -1, api.ErrArgument}, {full, 262145, api.ErrArgument}, {full, math.MinInt, api.ErrArgument}, {full, math.MaxInt, api.ErrArgument},
		{full, 0, api.ErrFull}, {full, 1, api.ErrFull}, {full, 128, api.ErrFull}, {full, 129, api.ErrFull}, {full, 262144, api.ErrFull},
		{fullOfAll, -1, api.ErrArgument}, {fullOfAll, 262145, api.ErrArgument}, {fullOfAll, 0, api.ErrFull}, {fullOfAll, 1, api.ErrFull}, {fullOfAll, 262144, api.ErrFull},
		{noRoom, -1, api.ErrArgument}, {noRoom, 262145, api.ErrArgument}, {noRoom, 1, api.ErrMemory}, {noRoom, 64, api.ErrMemory}, {noRoom, 262144, api.ErrMemory}, {noRoom, 0, nil},
	} {
		id, err := c.p.x.Create(c.size)
		want := 0
		if c.want == nil {
			want = 1
			c.p.m.create(c.size)
		}
		if id != want || !like(err, c.want) {
			t.Errorf("Create(%d): %d, %v, want %v", c.size, id, err, c.want)
		}
		c.p.see(t)
	}
}

// P9.1: 64 segments and one more, with and without bytes; a number that is free again.
func TestTable(t *testing.T) {
	for _, size := range []int{0, 1, 64, 65} {
		p := over(4096)
		for id := range 64 {
			if got, err := p.x.Create(size); got != id || err != nil {
				t.Fatalf("Create %d: %d, %v", id, got, err)
			}
			p.m.create(size)
			p.write(t, id, 0, marks(id, size))
		}
		p.see(t)
		for range 3 {
			if got, err := p.x.Create(size); got != 0 || !like(err, api.ErrFull) {
				t.Fatalf("one more: %d, %v", got, err)
			}
			p.see(t)
		}
		for _, id := range []int{63, 0, 31, 32} {
			p.delete(t, id)
			p.see(t)
			if got, err := p.x.Create(size); got != id || err != nil {
				t.Fatalf("Create again: %d, %v, want %d", got, err, id)
			}
			p.m.create(size)
			p.see(t)
			p.create(t, size)
			p.see(t)
		}
	}
}

// orders calls with every order of every choice of numbers below n.
func orders(n int, f func([]int)) {
	var grow func(chosen []int)
	grow = func(chosen []int) {
		f(slices.Clone(chosen))
		for k := range n {
			if !slices.Contains(chosen, k) {
				grow(append(slices.Clone(chosen), k))
			}
		}
	}
	grow(nil)
}

// P9.1: of several numbers that are free again, in any order, the lowest is taken, its bytes are 0, and all other segments stay.
func TestLowest(t *testing.T) {
	sizes := []int{65, 0, 130, 64, 1}
	for n := 1; n <= len(sizes); n++ {
		orders(n, func(gone []int) {
			p := filled(t, 9, sizes[:n]...)
			for _, id := range gone {
				p.delete(t, id)
				p.see(t)
			}
			for _, id := range slices.Sorted(slices.Values(gone)) {
				if got, err := p.x.Create(70); p.m.left() >= 2 && (got != id || err != nil) {
					t.Fatalf("%d of %d: Create: %d, %v, want %d", gone, n, got, err, id)
				}
				p.m.create(70)
				p.see(t)
			}
		})
	}
}

// P9.1: pages of one that was deleted are free, and those of no other one; each other segment has just its own bytes.
func TestDelete(t *testing.T) {
	for id := range 4 {
		p := filled(t, 8, 65, 0, 192, 64)
		was := p.x.Left()
		p.delete(t, id)
		if want := was + []int{2, 0, 3, 1}[id]; p.x.Left() != want {
			t.Errorf("Delete(%d): Left %d, want %d", id, p.x.Left(), want)
		}
		p.see(t)
		p.create(t, p.x.Left()*64)
		p.see(t)
		p.write(t, id, 0, marks(9, p.m.left()*64))
		p.see(t)
	}
}

// P9.1: the last page that is left, and one page too few, whichever segments have the others.
func TestLastPage(t *testing.T) {
	for n := 1; n <= 6; n++ {
		for used := 0; used < n; used++ {
			p := over(n)
			for id := range used {
				p.create(t, 64)
				p.write(t, id, 0, marks(id, 64))
			}
			free := n - used
			if id, err := p.x.Create(free*64 + 1); id != 0 || !like(err, api.ErrMemory) {
				t.Errorf("%d of %d used: one too few: %d, %v", used, n, id, err)
			}
			p.see(t)
			if id, err := p.x.Create(free*64 - 63); id != used || err != nil || p.x.Left() != 0 {
				t.Errorf("%d of %d used: the last: %d, %v, Left %d", used, n, id, err, p.x.Left())
			}
			p.m.create(free*64 - 63)
			p.see(t)
			p.create(t, 1)
			p.create(t, 0)
			p.see(t)
		}
	}
}

// P9.1, P9.2, P9.3: a segment of size 0 has no page, and only a piece of no bytes, at 0.
func TestNoSize(t *testing.T) {
	for _, pages := range []int{0, 1} {
		p := over(pages)
		if id, err := p.x.Create(0); id != 0 || err != nil || p.x.Left() != pages {
			t.Errorf("Create(0): %d, %v, Left %d", id, err, p.x.Left())
		}
		p.m.create(0)
		if n, err := p.x.Size(0); n != 0 || err != nil {
			t.Errorf("Size: %d, %v", n, err)
		}
		if b, err := p.x.Read(0, 0, 0); len(b) != 0 || err != nil {
			t.Errorf("Read: %x, %v", b, err)
		}
		for _, b := range [][]byte{nil, {}} {
			if err := p.x.Write(0, 0, b); err != nil {
				t.Errorf("Write: %v", err)
			}
		}
		p.read(t, 0, 0, 1)
		p.read(t, 0, 1, 0)
		p.write(t, 0, 0, []byte{1})
		p.write(t, 0, 1, nil)
		p.grow(t, 0, 0)
		p.see(t)
		p.grow(t, 0, 1)
		p.see(t)
		p.delete(t, 0)
		p.see(t)
	}
}

// closed holds each of the calls of a number that no segment has against ErrNotFound, with right and wrong other numbers.
func closed(t *testing.T, x *Store, id int) {
	t.Helper()
	if err := x.Delete(id); !like(err, api.ErrNotFound) {
		t.Fatalf("Delete(%d): %v", id, err)
	}
	if n, err := x.Size(id); n != 0 || !like(err, api.ErrNotFound) {
		t.Fatalf("Size(%d): %d, %v", id, n, err)
	}
	for _, a := range []int{math.MinInt, -1, 0, 1, 64, 262144, 262145, math.MaxInt} {
		if err := x.Grow(id, a); !like(err, api.ErrNotFound) {
			t.Fatalf("Grow(%d, %d): %v", id, a, err)
		}
		for _, n := range []int{math.MinInt, -1, 0, 1, math.MaxInt} {
			if b, err := x.Read(id, a, n); len(b) != 0 || !like(err, api.ErrNotFound) {
				t.Fatalf("Read(%d, %d, %d): %x, %v", id, a, n, b, err)
			}
		}
		for _, b := range [][]byte{nil, {}, {1}, make([]byte, 100)} {
			if err := x.Write(id, a, b); !like(err, api.ErrNotFound) {
				t.Fatalf("Write(%d, %d, %d bytes): %v", id, a, len(b), err)
			}
		}
	}
}

// P9.1, P9.2, P9.3: a number that no segment has, below 0, beyond all, and of one that was deleted: ErrNotFound, ahead of what else is wrong, and nothing changes.
func TestNotFound(t *testing.T) {
	p := filled(t, 8, 65, 64, 100)
	for _, id := range append([]int{3, 4, 5, 61}, far...) {
		if id >= 0 && id < 3 {
			continue
		}
		closed(t, p.x, id)
		p.see(t)
	}
	for _, id := range []int{1, 0, 2} {
		p.delete(t, id)
		closed(t, p.x, id)
		p.see(t)
	}
	full := over(64)
	for range 64 {
		full.create(t, 1)
	}
	for _, id := range []int{-64, -1, 64, 65, 128, 256, 1 << 32} {
		closed(t, full.x, id)
		full.see(t)
	}
	full.delete(t, 63)
	closed(t, full.x, 63)
	full.see(t)
}

// P9.1, W3: a number of which there was none is one's again when it is created anew, with nothing of what was there.
func TestAnew(t *testing.T) {
	p := filled(t, 4, 130)
	for _, size := range []int{1, 63, 64, 65, 128, 200, 256, 0, 256} {
		p.delete(t, 0)
		closed(t, p.x, 0)
		p.create(t, size)
		p.see(t)
		p.write(t, 0, 0, marks(size, size))
		p.see(t)
	}
}

// P9.2: Grow within the last page, by whole pages, and to its own size, from each size at the edges to each; what was written stays, all other bytes are 0.
func TestGrow(t *testing.T) {
	edges := []int{0, 1, 2, 63, 64, 65, 66, 127, 128, 129, 192, 200, 320, 321}
	for _, from := range edges {
		for _, to := range edges {
			p := filled(t, 6, from)
			p.grow(t, 0, to)
			p.see(t)
			if to < from {
				continue
			}
			p.write(t, 0, from, marks(5, to-from))
			p.see(t)
		}
	}
}

// P9.2: sizes and pages of one that grows, by hand.
func TestGrowByHand(t *testing.T) {
	x := Of(4)
	x.Create(0)
	for _, c := range []struct {
		to   int
		want error
		size int
		left int
	}{
		{0, nil, 0, 4}, {1, nil, 1, 3}, {1, nil, 1, 3}, {0, api.ErrArgument, 1, 3}, {63, nil, 63, 3}, {64, nil, 64, 3}, {63, api.ErrArgument, 64, 3},
		{65, nil, 65, 2}, {128, nil, 128, 2}, {-1, api.ErrArgument, 128, 2}, {math.MinInt, api.ErrArgument, 128, 2}, {127, api.ErrArgument, 128, 2},
		{257, api.ErrMemory, 128, 2}, {262144, api.ErrMemory, 128, 2}, {262145, api.ErrArgument, 128, 2}, {math.MaxInt, api.ErrArgument, 128, 2},
		{193, nil, 193, 0}, {256, nil, 256, 0}, {256, nil, 256, 0}, {257, api.ErrMemory, 256, 0}, {262144, api.ErrMemory, 256, 0}, {262145, api.ErrArgument, 256, 0}, {255, api.ErrArgument, 256, 0},
	} {
		if err := x.Grow(0, c.to); !like(err, c.want) {
			t.Errorf("Grow(0, %d): %v, want %v", c.to, err, c.want)
		}
		if n, err := x.Size(0); n != c.size || err != nil || x.Left() != c.left {
			t.Errorf("behind Grow(0, %d): Size %d, %v, Left %d", c.to, n, err, x.Left())
		}
	}
}

// P9.2: one byte more each time, written each time; what was there stays, the new byte is 0.
func TestGrowByOne(t *testing.T) {
	p := over(6)
	p.create(t, 0)
	p.create(t, 64)
	p.write(t, 1, 0, marks(3, 64))
	for n := 1; n <= 330; n++ {
		p.grow(t, 0, n)
		p.see(t)
		p.write(t, 0, min(n, 320)-1, []byte{byte(n%250 + 1)})
		p.see(t)
	}
}

// P9.2: pages that another segment had before are 0 in one that grows into them, and the pages of one need not lie in a row.
func TestGrowIntoOthers(t *testing.T) {
	p := filled(t, 8, 128, 128, 128, 128)
	p.delete(t, 0)
	p.delete(t, 2)
	p.grow(t, 3, 200)
	p.see(t)
	p.grow(t, 1, 256)
	p.see(t)
	p.write(t, 3, 100, marks(7, 100))
	p.see(t)
	p.write(t, 1, 60, marks(8, 196))
	p.see(t)
	p.grow(t, 3, 256)
	p.see(t)
	p.grow(t, 1, 257)
	p.see(t)
}

// P9.2: Grow to less, above 262144 and to more than pages are left changes nothing; less and too great are told ahead of too few pages.
func TestGrowWrong(t *testing.T) {
	for _, pages := range []int{4, 5, 100} {
		p := filled(t, pages, 200)
		for _, size := range far {
			if size >= 200 && need(min(size, 300000))-4 <= pages-4 {
				continue
			}
			want := error(api.ErrMemory)
			if size < 200 || size > 262144 {
				want = api.ErrArgument
			}
			if err := p.x.Grow(0, size); !like(err, want) {
				t.Errorf("%d pages: Grow(0, %d): %v, want %v", pages, size, err, want)
			}
			p.see(t)
		}
		p.grow(t, 0, pages*64+1)
		p.see(t)
		p.grow(t, 0, pages*64)
		p.see(t)
	}
}

// P9.2: the greatest segment, grown to from each edge, and one more.
func TestGrowGreatest(t *testing.T) {
	for _, from := range []int{0, 1, 64, 65, 262080, 262081, 262143, 262144} {
		p := over(math.MaxInt)
		p.create(t, from)
		p.write(t, 0, 0, marks(1, from))
		p.grow(t, 0, 262145)
		p.grow(t, 0, 262144)
		p.see(t)
		p.write(t, 0, 262100, marks(2, 44))
		p.grow(t, 0, 262145)
		p.grow(t, 0, 262143)
		p.grow(t, 0, 262144)
		p.see(t)
		if p.x.Left() != 0 {
			t.Errorf("from %d: Left %d", from, p.x.Left())
		}
	}
}

// P9.3: what is read, by hand: over two pages and more, the whole, and no bytes at its end.
func TestReadByHand(t *testing.T) {
	x := Of(3)
	x.Create(150)
	for _, c := range []struct {
		at   int
		text string
	}{{60, "0123456789"}, {126, "abcd"}, {0, "xyz"}, {1, "Q"}, {148, "<>"}, {150, ""}, {64, "-"}} {
		if err := x.Write(0, c.at, []byte(c.text)); err != nil {
			t.Errorf("Write(0, %d, %q): %v", c.at, c.text, err)
		}
	}
	zeros := func(n int) string { return string(make([]byte, n)) }
	whole := "xQz" + zeros(57) + "0123-56789" + zeros(56) + "abcd" + zeros(18) + "<>"
	for _, c := range []struct {
		at, n int
		want  string
	}{
		{0, 0, ""}, {150, 0, ""}, {64, 0, ""}, {0, 3, "xQz"}, {59, 12, "\x000123-56789\x00"}, {63, 1, "3"}, {64, 1, "-"}, {63, 2, "3-"}, {65, 5, "56789"},
		{127, 2, "bc"}, {149, 1, ">"}, {128, 22, "cd" + zeros(18) + "<>"}, {0, 150, whole}, {1, 149, whole[1:]}, {0, 149, whole[:149]},
		{0, 64, whole[:64]}, {64, 64, whole[64:128]}, {0, 128, whole[:128]}, {63, 66, whole[63:129]}, {63, 87, whole[63:]}, {64, 86, whole[64:]},
	} {
		if b, err := x.Read(0, c.at, c.n); string(b) != c.want || err != nil {
			t.Errorf("Read(0, %d, %d): %q, %v, want %q", c.at, c.n, b, err, c.want)
		}
	}
}

// P9.3: Read from every place on of every number of bytes, in the segment and around its bounds.
func TestReadAll(t *testing.T) {
	for _, size := range []int{0, 1, 63, 64, 65, 128, 130, 200} {
		p := filled(t, 12, 66, size, 64)
		for at := -2; at <= size+2; at++ {
			for n := -2; n <= size+2; n++ {
				p.read(t, 1, at, n)
			}
		}
		p.see(t)
	}
}

// P9.3: Write from every place on of every number of bytes, in the segment and around its bounds; all else stays, also in other segments.
func TestWriteAll(t *testing.T) {
	for _, size := range []int{0, 1, 64, 65, 130} {
		p := filled(t, 12, 66, size, 64)
		for at := -2; at <= size+2; at++ {
			for n := 0; n <= size+2; n++ {
				p.write(t, 1, at, marks(at+n+5, n))
				p.see(t)
			}
		}
	}
}

// P9.3: bounds that are far off, and sums that go round: ErrBounds, and nothing changes.
func TestFarBounds(t *testing.T) {
	p := filled(t, 12, 66, 200, 64)
	for _, at := range far {
		for _, n := range far {
			p.read(t, 1, at, n)
		}
		for _, n := range []int{0, 1, 2, 63, 64, 65, 128, 199, 200, 201, 1 << 16} {
			p.write(t, 1, at, marks(n, n))
			p.see(t)
		}
	}
	for _, c := range [][2]int{{-1, 1}, {1, -1}, {200, -1}, {200, -200}, {-200, 200}, {201, 0}, {0, 201}, {201, -1}, {-1, 0}, {0, -1}, {-1, 201}, {200, 1}, {1, 200}, {199, 2},
		{math.MaxInt, 1}, {1, math.MaxInt}, {math.MaxInt, math.MaxInt}, {math.MinInt, math.MinInt}, {math.MinInt, math.MaxInt}, {math.MaxInt, math.MinInt}, {math.MaxInt - 1, 202}, {202, math.MaxInt - 1}} {
		if b, err := p.x.Read(1, c[0], c[1]); len(b) != 0 || !like(err, api.ErrBounds) {
			t.Errorf("Read(1, %d, %d): %x, %v", c[0], c[1], b, err)
		}
	}
	p.see(t)
}

// P9.3: bounds are the segment's size, not its pages' end, also when it has grown within its last page.
func TestBoundsAreSize(t *testing.T) {
	p := filled(t, 3, 70)
	for size := 70; size <= 128; size++ {
		p.grow(t, 0, size)
		p.read(t, 0, size, 1)
		p.read(t, 0, size+1, 0)
		p.read(t, 0, 0, size+1)
		p.write(t, 0, size, []byte{1})
		p.write(t, 0, 0, marks(1, size+1))
		p.see(t)
		p.read(t, 0, size-1, 1)
		p.write(t, 0, size, nil)
		p.see(t)
	}
}

// P9.3: what is written into one segment shows in no other one, of 64 too, nor in another store.
func TestApart(t *testing.T) {
	one, other := filled(t, 8, 65, 64, 130), filled(t, 8, 65, 64, 130)
	for id := range 3 {
		one.write(t, id, 30+id, []byte{0, 0xff, 0})
		one.see(t)
		other.see(t)
	}
	other.delete(t, 1)
	one.see(t)
	other.see(t)
	p := over(4096)
	for id := range 64 {
		p.create(t, 100+id)
		p.write(t, id, 0, marks(id, 100+id))
	}
	p.see(t)
	for id := range 64 {
		p.write(t, id, 60, marks(id+100, 10))
		p.see(t)
	}
}

// P9.3, W6: what was read is new memory: it stays when the segment is written, deleted or made anew, and the segment stays when it is changed or grows.
func TestReadIsNew(t *testing.T) {
	for _, at := range []int{0, 1, 60, 63, 64, 65, 128, 130} {
		for _, n := range []int{0, 1, 4, 64, 65, 100, 130} {
			if at+n > 130 {
				continue
			}
			p := filled(t, 5, 130, 64)
			was, _ := p.x.Read(0, at, n)
			again, _ := p.x.Read(0, at, n)
			kept := bytes.Clone(was)
			p.write(t, 0, 0, bytes.Repeat([]byte{0xee}, 130))
			p.delete(t, 0)
			p.create(t, 130)
			if !bytes.Equal(was, kept) {
				t.Fatalf("%d bytes from %d on changed with the segment", n, at)
			}
			for i := range was[:cap(was)] {
				was[:cap(was)][i] = 0xdd
			}
			if !bytes.Equal(again, kept) {
				t.Fatalf("%d bytes from %d on, read twice, are one memory", n, at)
			}
			p.see(t)
		}
	}
}

// P9.3, W6: what was handed in is not changed, nor the bytes behind it, and not kept.
func TestWriteKeepsNothing(t *testing.T) {
	for _, n := range []int{0, 1, 63, 64, 65, 128, 130, 131} {
		p := filled(t, 6, 130, 140)
		whole := marks(50, 200)
		was := bytes.Clone(whole)
		b := whole[10 : 10+n]
		p.write(t, 0, 0, b)
		p.write(t, 1, 3, b)
		p.write(t, 1, -1, b)
		p.write(t, 2, 0, b)
		if !bytes.Equal(whole, was) {
			t.Errorf("%d bytes: what was handed in changed", n)
		}
		for i := range whole {
			whole[i] = 0xee
		}
		p.see(t)
		p.write(t, 0, 1, []byte{1})
		p.delete(t, 1)
		if !bytes.Equal(whole, bytes.Repeat([]byte{0xee}, 200)) {
			t.Errorf("%d bytes: what was handed in changes with the segment", n)
		}
	}
}

// P9.3: bytes that were read may be written, into the same segment, where they overlap, and into another one.
func TestReadAndWrite(t *testing.T) {
	p := filled(t, 6, 200, 130)
	for _, to := range []int{0, 1, 5, 30, 64, 65} {
		b, err := p.x.Read(0, 3, 65)
		if err != nil {
			t.Fatal(err)
		}
		p.write(t, 0, to, b)
		p.see(t)
		p.write(t, 1, to, b)
		p.see(t)
	}
}

// step is one call, at a store and at the model.
type step func(t *testing.T, p pair)

func steps() []step {
	create := func(size int) step { return func(t *testing.T, p pair) { t.Helper(); p.create(t, size) } }
	remove := func(id int) step { return func(t *testing.T, p pair) { t.Helper(); p.delete(t, id) } }
	grow := func(id, size int) step { return func(t *testing.T, p pair) { t.Helper(); p.grow(t, id, size) } }
	write := func(id, at int, text string) step {
		return func(t *testing.T, p pair) { t.Helper(); p.write(t, id, at, []byte(text)) }
	}
	return []step{
		create(0), create(64), create(65), create(-1),
		remove(0), remove(1), remove(2),
		grow(0, 64), grow(0, 129), grow(1, 65),
		write(0, 62, "abc"), write(1, 0, "d"), write(1, 63, "ef"),
	}
}

// P9.1, P9.2, P9.3: every run of four of those steps, on stores of 0 to 4 pages, held against the model.
func TestShortRuns(t *testing.T) {
	all := steps()
	for n := range 5 {
		var run [4]int
		for {
			p := over(n)
			for _, i := range run {
				all[i](t, p)
			}
			p.see(t)
			at := 0
			for at < len(run) && run[at] == len(all)-1 {
				run[at] = 0
				at++
			}
			if at == len(run) {
				break
			}
			run[at]++
		}
	}
}

// strewn is numbers that look strewn, and are the same in each run.
type strewn uint64

func (s *strewn) below(n int) int {
	*s = *s*6364136223846793005 + 1442695040888963407
	return int(uint64(*s) >> 33 % uint64(n))
}

func (s *strewn) bytes(n int) []byte {
	b := make([]byte, n)
	for i := range b {
		b[i] = byte(s.below(256))
	}
	return b
}

// stray does one strewn call, right or wrong, at a store and at the model.
func (p pair) stray(t *testing.T, s *strewn, ids, great int) {
	t.Helper()
	id := s.below(ids+2) - 1
	size := len(p.m.segments[id])
	at := s.below(size+4) - 2
	switch s.below(10) {
	case 0, 1:
		p.create(t, s.below(great+2)-1)
	case 2:
		p.delete(t, id)
	case 3:
		p.grow(t, id, size+s.below(great)-great/4)
	case 4, 5:
		p.read(t, id, at, s.below(max(size-at, 0)+3)-1)
	case 6:
		f := func() int { return far[s.below(len(far))] }
		p.read(t, id, f(), f())
		p.size(t, f())
	default:
		p.write(t, id, at, s.bytes(s.below(max(size-at, 0)+2)))
	}
}

// P9.1, P9.2, P9.3: long runs of strewn calls, right and wrong ones, with few segments and many, small and great.
func TestLongRuns(t *testing.T) {
	for i, c := range []struct{ pages, ids, great int }{{0, 2, 2}, {1, 2, 64}, {2, 3, 130}, {5, 4, 200}, {12, 6, 300}, {40, 64, 40}, {100, 70, 150}} {
		t.Run(strconv.Itoa(i), func(t *testing.T) {
			s, p := strewn(i+1), over(c.pages)
			for k := range 4000 {
				p.stray(t, &s, c.ids, c.great)
				if c.pages < 20 || k%20 == 0 {
					p.see(t)
				}
			}
			p.see(t)
		})
	}
}

// W1: the greatest store, all of it one segment, and 64 of them, made and deleted over and over, and grown page by page.
func TestGreatest(t *testing.T) {
	x := Of(math.MaxInt)
	whole := marks(1, 262144)
	for range 3 {
		if id, err := x.Create(262144); id != 0 || err != nil || x.Left() != 0 {
			t.Fatalf("Create: %d, %v, Left %d", id, err, x.Left())
		}
		if err := x.Write(0, 0, whole); err != nil {
			t.Fatal(err)
		}
		if b, err := x.Read(0, 0, 262144); !bytes.Equal(b, whole) || err != nil {
			t.Fatalf("Read: %d bytes, %v", len(b), err)
		}
		if err := x.Delete(0); err != nil || x.Left() != 4096 {
			t.Fatalf("Delete: %v, Left %d", err, x.Left())
		}
		for id := range 64 {
			if got, err := x.Create(4096); got != id || err != nil {
				t.Fatalf("Create: %d, %v, want %d", got, err, id)
			}
			if b, err := x.Read(id, 0, 4096); !bytes.Equal(b, make([]byte, 4096)) || err != nil {
				t.Fatalf("Read of %d: %v", id, err)
			}
		}
		for id := range 64 {
			if err := x.Delete(id); err != nil {
				t.Fatal(err)
			}
		}
	}
	x.Create(0)
	for k := range 4096 {
		if err := x.Grow(0, 64*k+1); err != nil || x.Left() != 4095-k {
			t.Fatalf("Grow to page %d: %v, Left %d", k, err, x.Left())
		}
	}
}
