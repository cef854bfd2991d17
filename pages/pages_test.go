package pages

import (
	"bytes"
	"errors"
	"math"
	"slices"
	"strconv"
	"testing"

	"sigillum/api"
)

// model is a memory as a number of pages and, of each that is given out, the bytes that were written, by their places.
type model struct {
	size  int
	given map[int]map[int]byte
}

func modelOf(n int) *model {
	if n < 0 {
		n = 0
	}
	if n > 4096 {
		n = 4096
	}
	return &model{size: n, given: map[int]map[int]byte{}}
}

func (m *model) alloc() (int, error) {
	for k := 0; k < m.size; k++ {
		if m.given[k] == nil {
			m.given[k] = map[int]byte{}
			return k, nil
		}
	}
	return 0, api.ErrMemory
}

func (m *model) free(k int) error {
	if m.given[k] == nil {
		return api.ErrArgument
	}
	delete(m.given, k)
	return nil
}

func (m *model) left() int { return m.size - len(m.given) }

// within tells whether a number is from 0 to a page's end.
func within(x int) bool { return x >= 0 && x <= 64 }

func (m *model) wrong(k, at, n int) error {
	switch {
	case m.given[k] == nil:
		return api.ErrArgument
	case !within(at), !within(n), !within(at + n):
		return api.ErrBounds
	}
	return nil
}

func (m *model) read(k, at, n int) ([]byte, error) {
	if err := m.wrong(k, at, n); err != nil {
		return nil, err
	}
	out := []byte{}
	for i := at; i < at+n; i++ {
		out = append(out, m.given[k][i])
	}
	return out, nil
}

func (m *model) write(k, at int, b []byte) error {
	if err := m.wrong(k, at, len(b)); err != nil {
		return err
	}
	for i, v := range b {
		m.given[k][at+i] = v
	}
	return nil
}

// pair is a memory, and the model of it.
type pair struct {
	x *Memory
	m *model
}

func over(n int) pair { return pair{Of(n), modelOf(n)} }

// like tells whether an error is the one that is asked for, or none where none is.
func like(err, want error) bool {
	if want == nil {
		return err == nil
	}
	return errors.Is(err, want) && api.Number(err) == api.Number(want)
}

func (p pair) alloc(t *testing.T) {
	t.Helper()
	want, wrong := p.m.alloc()
	if got, err := p.x.Alloc(); got != want || !like(err, wrong) {
		t.Fatalf("Alloc: %d, %v, want %d, %v", got, err, want, wrong)
	}
}

func (p pair) free(t *testing.T, k int) {
	t.Helper()
	wrong := p.m.free(k)
	if err := p.x.Free(k); !like(err, wrong) {
		t.Fatalf("Free(%d): %v, want %v", k, err, wrong)
	}
}

func (p pair) read(t *testing.T, k, at, n int) {
	t.Helper()
	want, wrong := p.m.read(k, at, n)
	got, err := p.x.Read(k, at, n)
	if !bytes.Equal(got, want) || !like(err, wrong) {
		t.Fatalf("Read(%d, %d, %d): %x, %v, want %x, %v", k, at, n, got, err, want, wrong)
	}
}

func (p pair) write(t *testing.T, k, at int, b []byte) {
	t.Helper()
	wrong := p.m.write(k, at, b)
	if err := p.x.Write(k, at, b); !like(err, wrong) {
		t.Fatalf("Write(%d, %d, %x): %v, want %v", k, at, b, err, wrong)
	}
}

// see holds all that a memory tells against the model: how many are left, and all bytes of each page, and of those that are not there.
func (p pair) see(t *testing.T) {
	t.Helper()
	if got, want := p.x.Left(), p.m.left(); got != want {
		t.Fatalf("Left: %d, want %d", got, want)
	}
	for k := -1; k <= p.m.size; k++ {
		p.read(t, k, 0, 64)
	}
}

// filled is a pair of so many pages, all given out, each with other bytes in each place.
func filled(t *testing.T, n int) pair {
	t.Helper()
	p := over(n)
	for k := range n {
		p.alloc(t)
		p.write(t, k, 0, marks(k))
	}
	p.see(t)
	return p
}

// marks is a page of bytes that are unlike in its places, none 0, and begin otherwise for each of 150 numbers.
func marks(k int) []byte {
	b := make([]byte, 64)
	for i := range b {
		b[i] = byte(1 + k%150 + i)
	}
	return b
}

// far is numbers at and beyond all bounds, and those whose sums go round.
var far = []int{math.MinInt, math.MinInt + 1, math.MinInt + 63, math.MinInt + 64, math.MinInt + 65, math.MinInt32, -4096, -65, -64, -63, -1, 0, 1, 2, 62, 63, 64, 65, 127, 128, 192, 256, 320, 4095, 4096, 4097, math.MaxInt32, 1 << 32, 1<<32 + 1, math.MaxInt - 65, math.MaxInt - 64, math.MaxInt - 63, math.MaxInt - 1, math.MaxInt}

// P8.1, P8.2: the chapter's example.
func TestExample(t *testing.T) {
	x := Of(2)
	for k := range 2 {
		if got, err := x.Alloc(); got != k || err != nil {
			t.Errorf("Alloc %d: %d, %v", k, got, err)
		}
	}
	if got, err := x.Alloc(); got != 0 || !errors.Is(err, api.ErrMemory) {
		t.Errorf("Alloc of none: %d, %v", got, err)
	}
	if err := x.Write(0, 0, marks(0)); err != nil {
		t.Error(err)
	}
	if err := x.Free(0); err != nil {
		t.Error(err)
	}
	if got, err := x.Alloc(); got != 0 || err != nil {
		t.Errorf("Alloc again: %d, %v", got, err)
	}
	if b, err := x.Read(0, 0, 64); !bytes.Equal(b, make([]byte, 64)) || err != nil {
		t.Errorf("its bytes: %x, %v", b, err)
	}
}

// P8.1: how many pages there are, by Left, and by giving all of them out, in order.
func TestSizes(t *testing.T) {
	for _, c := range []struct{ n, want int }{
		{math.MinInt, 0}, {math.MinInt + 1, 0}, {-1 << 32, 0}, {-4097, 0}, {-4096, 0}, {-1, 0}, {0, 0},
		{1, 1}, {2, 2}, {3, 3}, {63, 63}, {64, 64}, {65, 65}, {255, 255}, {256, 256}, {4095, 4095}, {4096, 4096},
		{4097, 4096}, {8192, 4096}, {1 << 16, 4096}, {1 << 32, 4096}, {1<<32 + 1, 4096}, {math.MaxInt - 1, 4096}, {math.MaxInt, 4096},
	} {
		x := Of(c.n)
		for k := range c.want {
			if x.Left() != c.want-k {
				t.Fatalf("Of(%d), %d given out: Left %d", c.n, k, x.Left())
			}
			if got, err := x.Alloc(); got != k || err != nil {
				t.Fatalf("Of(%d), Alloc %d: %d, %v", c.n, k, got, err)
			}
		}
		for range 3 {
			if got, err := x.Alloc(); got != 0 || !like(err, api.ErrMemory) || x.Left() != 0 {
				t.Errorf("Of(%d), Alloc of none: %d, %v, Left %d", c.n, got, err, x.Left())
			}
		}
	}
}

// P8.1: none is given out at first, and every one is, with all of its bytes 0, when it was allocated.
func TestGivenOut(t *testing.T) {
	for _, n := range []int{0, 1, 2, 5, 4096} {
		x := Of(n)
		for k := range n {
			for _, j := range []int{k, k + 1, n - 1, n} {
				if b, err := x.Read(j, 0, 0); len(b) != 0 || !like(err, api.ErrArgument) {
					t.Fatalf("Of(%d), %d given out, Read of %d: %x, %v", n, k, j, b, err)
				}
				if err := x.Free(j); !like(err, api.ErrArgument) {
					t.Fatalf("Of(%d), %d given out, Free(%d): %v", n, k, j, err)
				}
			}
			x.Alloc()
			for _, j := range []int{0, k / 2, k} {
				if b, err := x.Read(j, 0, 64); !bytes.Equal(b, make([]byte, 64)) || err != nil {
					t.Fatalf("Of(%d), %d given out, Read of %d: %x, %v", n, k+1, j, b, err)
				}
			}
		}
	}
}

// P8.1: Alloc when none is left changes nothing, once and often.
func TestNoneLeft(t *testing.T) {
	for n := range 4 {
		p := filled(t, n)
		for range 100 {
			p.alloc(t)
			p.see(t)
		}
		if n > 0 {
			p.free(t, n-1)
			p.see(t)
			p.alloc(t)
			p.see(t)
		}
	}
}

// orders calls with every order of every choice of numbers below n.
func orders(n int, f func([]int)) {
	var grow func(chosen []int)
	grow = func(chosen []int) {
		f(slices.Clone(chosen))
		for k := range n {
			if !slices.Contains(chosen, k) {
				grow(append(slices.Clone(chosen), k))
			}
		}
	}
	grow(nil)
}

// P8.1: of several pages that were taken back, in any order, the lowest is given out, and all of its bytes are 0.
func TestLowest(t *testing.T) {
	for n := 1; n <= 5; n++ {
		orders(n, func(back []int) {
			x := filled(t, n).x
			for i, k := range back {
				if err := x.Free(k); err != nil || x.Left() != i+1 {
					t.Fatalf("%d of %d: Free(%d): %v, Left %d", back, n, k, err, x.Left())
				}
			}
			want := slices.Sorted(slices.Values(back))
			for i, k := range want {
				if got, err := x.Alloc(); got != k || err != nil || x.Left() != len(back)-i-1 {
					t.Fatalf("%d of %d: Alloc %d, %v, Left %d, want %d", back, n, got, err, x.Left(), k)
				}
				if b, err := x.Read(k, 0, 64); !bytes.Equal(b, make([]byte, 64)) || err != nil {
					t.Fatalf("%d of %d: page %d: %x, %v", back, n, k, b, err)
				}
			}
			for k := range n {
				if slices.Contains(back, k) {
					continue
				}
				if b, err := x.Read(k, 0, 64); !bytes.Equal(b, marks(k)) || err != nil {
					t.Fatalf("%d of %d: page %d, which was not taken back: %x, %v", back, n, k, b, err)
				}
			}
		})
	}
}

// P8.1: of many pages the lowest is given out, among those behind and ahead of ones that are given out.
func TestLowestOfMany(t *testing.T) {
	x := Of(4096)
	for range 4096 {
		x.Alloc()
	}
	for _, k := range []int{4095, 7, 2048, 64, 63, 4094, 0, 256} {
		if err := x.Free(k); err != nil {
			t.Errorf("Free(%d): %v", k, err)
		}
	}
	for i, k := range []int{0, 7, 63, 64, 256, 2048, 4094, 4095} {
		if got, err := x.Alloc(); got != k || err != nil || x.Left() != 7-i {
			t.Errorf("Alloc: %d, %v, Left %d, want %d", got, err, x.Left(), k)
		}
	}
	if got, err := x.Alloc(); got != 0 || !like(err, api.ErrMemory) {
		t.Errorf("Alloc of none: %d, %v", got, err)
	}
}

// P8.1: a page given out anew shows nothing of what was in it, in whichever of its bytes, and how often soever.
func TestAnew(t *testing.T) {
	p := filled(t, 3)
	for at := range 64 {
		for k := range 3 {
			p.write(t, k, at, []byte{0xff})
			p.free(t, k)
			p.see(t)
			p.alloc(t)
			p.see(t)
		}
	}
}

// P8.1: a page that was taken back is closed to all, and open again when it is given out anew.
func TestTakenBack(t *testing.T) {
	p := filled(t, 3)
	p.free(t, 1)
	for range 2 {
		p.free(t, 1)
		p.read(t, 1, 0, 1)
		p.read(t, 1, 0, 0)
		p.write(t, 1, 0, []byte{1})
		p.write(t, 1, 64, nil)
		p.see(t)
	}
	p.alloc(t)
	p.see(t)
	p.write(t, 1, 5, []byte{1, 2})
	p.see(t)
}

// P8.1: how many are left, by hand.
func TestLeft(t *testing.T) {
	x := Of(3)
	alloc := func() { x.Alloc() }
	free := func(k int) func() { return func() { x.Free(k) } }
	for i, c := range []struct {
		do   func()
		want int
	}{
		{func() {}, 3}, {free(0), 3}, {alloc, 2}, {alloc, 1}, {free(2), 1}, {alloc, 0}, {alloc, 0}, {alloc, 0},
		{free(1), 1}, {free(1), 1}, {free(-1), 1}, {free(3), 1}, {free(0), 2}, {free(2), 3}, {free(2), 3}, {alloc, 2},
		{func() { x.Read(0, 0, 64) }, 2}, {func() { x.Write(0, 0, []byte{1}) }, 2}, {func() { x.Write(1, 0, []byte{1}) }, 2}, {func() { x.Left() }, 2},
	} {
		c.do()
		if x.Left() != c.want {
			t.Errorf("behind step %d: Left %d, want %d", i, x.Left(), c.want)
		}
	}
}

// P8.1: Free of a page that is not given out, or that there is none of, and nothing changes by it.
func TestFreeWrong(t *testing.T) {
	for n := range 4 {
		p := filled(t, n)
		for _, k := range far {
			if k >= 0 && k < n {
				continue
			}
			if err := p.x.Free(k); !like(err, api.ErrArgument) {
				t.Errorf("Of(%d): Free(%d): %v", n, k, err)
			}
			p.see(t)
		}
		for k := range n {
			p.free(t, k)
			for range 3 {
				if err := p.x.Free(k); !like(err, api.ErrArgument) {
					t.Errorf("Of(%d): Free(%d) again: %v", n, k, err)
				}
				p.see(t)
			}
		}
	}
}

// P8.2: what is read, by hand.
func TestReadByHand(t *testing.T) {
	x := Of(2)
	x.Alloc()
	x.Alloc()
	if err := x.Write(1, 60, []byte("abcd")); err != nil {
		t.Error(err)
	}
	if err := x.Write(1, 0, []byte("xyz")); err != nil {
		t.Error(err)
	}
	if err := x.Write(1, 1, []byte("Q")); err != nil {
		t.Error(err)
	}
	for _, c := range []struct {
		at, n int
		want  string
	}{
		{0, 0, ""}, {64, 0, ""}, {32, 0, ""}, {0, 1, "x"}, {0, 3, "xQz"}, {0, 5, "xQz\x00\x00"}, {1, 2, "Qz"},
		{63, 1, "d"}, {60, 4, "abcd"}, {58, 6, "\x00\x00abcd"}, {61, 2, "bc"},
		{0, 64, "xQz" + string(make([]byte, 57)) + "abcd"}, {1, 63, "Qz" + string(make([]byte, 57)) + "abcd"},
	} {
		if b, err := x.Read(1, c.at, c.n); string(b) != c.want || err != nil {
			t.Errorf("Read(1, %d, %d): %q, %v, want %q", c.at, c.n, b, err, c.want)
		}
	}
}

// P8.2: Read from every place on of every number of bytes, in the page and around its bounds.
func TestReadAll(t *testing.T) {
	p := filled(t, 2)
	for at := -3; at <= 67; at++ {
		for n := -3; n <= 67; n++ {
			for k := range 2 {
				p.read(t, k, at, n)
			}
		}
	}
	p.see(t)
}

// P8.2: Write from every place on of every number of bytes, in the page and around its bounds; all else stays.
func TestWriteAll(t *testing.T) {
	p := filled(t, 2)
	for at := -3; at <= 67; at++ {
		for n := 0; n <= 67; n++ {
			b := bytes.Repeat([]byte{byte(at*7 + n)}, n)
			for i := range b {
				b[i] += byte(i)
			}
			p.write(t, n%2, at, b)
			p.see(t)
		}
	}
}

// P8.2: bounds that are far off, and sums that go round, of a page that is given out: ErrBounds, and nothing changes.
func TestFarBounds(t *testing.T) {
	p := filled(t, 2)
	for _, at := range far {
		for _, n := range far {
			p.read(t, 1, at, n)
		}
		for _, n := range []int{0, 1, 2, 63, 64, 65, 128, 4096, 1 << 16} {
			b := make([]byte, n)
			if within(at) && within(at+n) {
				b = bytes.Clone(marks(1)[at : at+n])
			}
			p.write(t, 1, at, b)
			p.see(t)
		}
	}
	for _, c := range [][2]int{{-1, 1}, {1, -1}, {64, -1}, {64, -64}, {-64, 64}, {65, 0}, {0, 65}, {65, -1}, {-1, 0}, {-1, 65}, {64, 1}, {1, 64}, {63, 2},
		{math.MaxInt, 1}, {1, math.MaxInt}, {math.MaxInt, math.MaxInt}, {math.MinInt, math.MinInt}, {math.MinInt, math.MaxInt}, {math.MaxInt, math.MinInt}, {math.MaxInt - 1, 66}, {66, math.MaxInt - 1}} {
		if b, err := p.x.Read(1, c[0], c[1]); len(b) != 0 || !like(err, api.ErrBounds) {
			t.Errorf("Read(1, %d, %d): %x, %v", c[0], c[1], b, err)
		}
	}
	p.see(t)
}

// P8.2: a page that is not given out is told ahead of bounds that are wrong; nothing changes.
func TestNotGivenOut(t *testing.T) {
	p := filled(t, 4)
	p.free(t, 2)
	for _, k := range append([]int{2, 4, 5}, far...) {
		if k == 0 || k == 1 {
			continue
		}
		for _, at := range far {
			for _, n := range far {
				if b, err := p.x.Read(k, at, n); len(b) != 0 || !like(err, api.ErrArgument) {
					t.Fatalf("Read(%d, %d, %d): %x, %v", k, at, n, b, err)
				}
			}
			for _, n := range []int{0, 1, 64, 65} {
				if err := p.x.Write(k, at, make([]byte, n)); !like(err, api.ErrArgument) {
					t.Fatalf("Write(%d, %d, %d bytes): %v", k, at, n, err)
				}
			}
		}
		p.see(t)
	}
	for _, n := range []int{0, math.MinInt} {
		x := Of(n)
		if b, err := x.Read(0, 0, 0); len(b) != 0 || !like(err, api.ErrArgument) {
			t.Errorf("Of(%d): Read: %x, %v", n, b, err)
		}
		if err := x.Write(0, 0, nil); !like(err, api.ErrArgument) {
			t.Errorf("Of(%d): Write: %v", n, err)
		}
	}
}

// P8.2: no bytes, nil and empty, at each place: nothing changes.
func TestNoBytes(t *testing.T) {
	p := filled(t, 1)
	for at := range 65 {
		for _, b := range [][]byte{nil, {}, []byte("abc")[:0]} {
			p.write(t, 0, at, b)
			p.read(t, 0, at, 0)
			p.see(t)
		}
	}
}

// P8.2: what is written into one page shows in no other one, of many pages too, nor in another memory.
func TestPagesApart(t *testing.T) {
	one, other := filled(t, 3), filled(t, 3)
	for k := range 3 {
		one.write(t, k, k, []byte{0, 0xff, 0})
		one.see(t)
		other.see(t)
	}
	other.free(t, 1)
	one.see(t)
	other.see(t)
	x := Of(4096)
	for k := range 4096 {
		x.Alloc()
		if err := x.Write(k, 0, bytes.Repeat([]byte{byte(k), byte(k >> 8)}, 32)); err != nil {
			t.Fatal(k, err)
		}
	}
	for k := range 4096 {
		if b, err := x.Read(k, 0, 64); !bytes.Equal(b, bytes.Repeat([]byte{byte(k), byte(k >> 8)}, 32)) || err != nil {
			t.Fatalf("page %d: %x, %v", k, b, err)
		}
	}
}

// P8.2, W6: what was read is new memory: it stays when the page is written or taken back, and the page stays when it is changed or grows.
func TestReadIsNew(t *testing.T) {
	p := filled(t, 2)
	for at := 0; at <= 64; at++ {
		for _, n := range []int{0, 1, 2, 32, 63, 64} {
			if at+n > 64 {
				continue
			}
			was, _ := p.x.Read(0, at, n)
			again, _ := p.x.Read(0, at, n)
			kept := bytes.Clone(was)
			p.write(t, 0, 0, bytes.Repeat([]byte{byte(n)}, 64))
			if !bytes.Equal(was, kept) {
				t.Fatalf("%d bytes from %d on changed with the page", n, at)
			}
			p.free(t, 0)
			p.alloc(t)
			p.write(t, 0, 0, marks(at))
			if !bytes.Equal(was, kept) {
				t.Fatalf("%d bytes from %d on changed with the page given out anew", n, at)
			}
			was, _ = p.x.Read(0, at, n)
			for i := range was {
				was[i]++
			}
			grown := append(was, 1, 2, 3, 4)
			grown[len(grown)-1]++
			for i := range was[:cap(was)] {
				was[:cap(was)][i] = 0xee
			}
			if !bytes.Equal(again, kept) {
				t.Fatalf("%d bytes from %d on, read twice, are one memory", n, at)
			}
			p.see(t)
		}
	}
}

// P8.2, W6: what was handed in is not changed, nor the bytes behind it, and not kept.
func TestWriteKeepsNothing(t *testing.T) {
	for _, n := range []int{0, 1, 2, 63, 64, 65} {
		p := filled(t, 2)
		whole := bytes.Repeat([]byte{9, 8, 7}, 50)
		was := bytes.Clone(whole)
		b := whole[10 : 10+n]
		p.write(t, 0, 0, b)
		p.write(t, 1, 64-min(n, 64), b)
		p.write(t, 1, -1, b)
		p.write(t, 2, 0, b)
		if !bytes.Equal(whole, was) {
			t.Errorf("%d bytes: what was handed in changed", n)
		}
		for i := range whole {
			whole[i] = 0xee
		}
		p.see(t)
		p.write(t, 0, 1, []byte{1})
		p.free(t, 1)
		for i := range whole {
			if whole[i] != 0xee {
				t.Errorf("%d bytes: what was handed in changes with the page", n)
			}
		}
	}
}

// P8.2: bytes that were read may be written, into the same page, where they overlap, and into another one.
func TestReadAndWrite(t *testing.T) {
	p := filled(t, 2)
	for _, to := range []int{0, 1, 5, 20, 32} {
		b, err := p.x.Read(0, 3, 32)
		if err != nil {
			t.Fatal(err)
		}
		p.write(t, 0, to, b)
		p.see(t)
		p.write(t, 1, to, b)
		p.see(t)
	}
}

// step is one call, at a memory and at the model.
type step func(t *testing.T, p pair)

func steps() []step {
	free := func(k int) step { return func(t *testing.T, p pair) { t.Helper(); p.free(t, k) } }
	write := func(k, at int, text string) step {
		return func(t *testing.T, p pair) { t.Helper(); p.write(t, k, at, []byte(text)) }
	}
	read := func(k, at, n int) step { return func(t *testing.T, p pair) { t.Helper(); p.read(t, k, at, n) } }
	return []step{
		func(t *testing.T, p pair) { t.Helper(); p.alloc(t) },
		free(0), free(1), free(2), free(-1),
		write(0, 0, "ab"), write(0, 62, "cd"), write(1, 1, "e"), write(1, 63, "fg"),
		read(0, 62, 2), read(1, 0, 65),
	}
}

// P8.1, P8.2: every run of four of those steps, on memories of 0 to 3 pages, and of five on one of 2, held against the model.
func TestShortRuns(t *testing.T) {
	all := steps()
	for n, long := range []int{4, 4, 5, 4} {
		run := make([]int, long)
		for {
			p := over(n)
			for _, i := range run {
				all[i](t, p)
			}
			p.see(t)
			at := 0
			for at < long && run[at] == len(all)-1 {
				run[at] = 0
				at++
			}
			if at == long {
				break
			}
			run[at]++
		}
	}
}

// strewn is numbers that look strewn, and are the same in each run.
type strewn uint64

func (s *strewn) below(n int) int {
	*s = *s*6364136223846793005 + 1442695040888963407
	return int(uint64(*s) >> 33 % uint64(n))
}

func (s *strewn) bytes(n int) []byte {
	b := make([]byte, n)
	for i := range b {
		b[i] = byte(s.below(256))
	}
	return b
}

// P8.1, P8.2: long runs of strewn calls, right and wrong ones.
func TestLongRuns(t *testing.T) {
	for _, n := range []int{0, 1, 2, 3, 7, 40, 100} {
		t.Run(strconv.Itoa(n), func(t *testing.T) {
			s, p := strewn(n+1), over(n)
			for i := range 6000 {
				k, at := s.below(n+2)-1, s.below(68)-2
				switch s.below(8) {
				case 0, 1:
					p.alloc(t)
				case 2:
					p.free(t, k)
				case 3, 4:
					p.read(t, k, at, s.below(68-at)-1)
				case 5:
					p.read(t, far[s.below(len(far))], far[s.below(len(far))], far[s.below(len(far))])
				default:
					p.write(t, k, at, s.bytes(s.below(67-at)))
				}
				if n < 10 || i%50 == 0 {
					p.see(t)
				}
			}
			p.see(t)
		})
	}
}

// W1: the greatest memory, all of it given out and taken back over and over.
func TestGreatest(t *testing.T) {
	x := Of(math.MaxInt)
	for range 20 {
		for k := range 4096 {
			if got, err := x.Alloc(); got != k || err != nil {
				t.Fatalf("Alloc: %d, %v, want %d", got, err, k)
			}
		}
		for k := range 4096 {
			if err := x.Free(4095 - k); err != nil {
				t.Fatalf("Free(%d): %v", 4095-k, err)
			}
		}
		if x.Left() != 4096 {
			t.Fatalf("Left %d", x.Left())
		}
	}
}
