package amap

import (
	"errors"
	"math"
	"slices"
	"testing"

	"sigillum/api"
)

// model is areas in the order in which they were added.
type model []Area

// owner is which area has an address; -1, if none has.
func (m model) owner(addr int) int {
	for i, a := range m {
		if addr >= a.Base && addr < a.Base+a.Size {
			return i
		}
	}
	return -1
}

// sum is of two numbers, and Limit + 1, if it is greater than that.
func sum(a, b int) int {
	for _, x := range []int{a, b} {
		if x > Limit {
			return Limit + 1
		}
	}
	return min(a+b, Limit+1)
}

func (m model) add(a Area) (model, error) {
	switch {
	case a.Size < 1, a.Base < 0, sum(a.Base, a.Size) > Limit:
		return m, api.ErrBounds
	case a.Offset < 0, a.Segment < 0:
		return m, api.ErrArgument
	}
	for _, b := range m {
		if max(a.Base, b.Base) < min(a.Base+a.Size, b.Base+b.Size) {
			return m, api.ErrOverlap
		}
	}
	if len(m) == 64 {
		return m, api.ErrFull
	}
	return append(slices.Clone(m), a), nil
}

func (m model) remove(base int) (model, error) {
	out := model{}
	for _, a := range m {
		if a.Base != base {
			out = append(out, a)
		}
	}
	if len(out) == len(m) {
		return m, api.ErrNotFound
	}
	return out, nil
}

// rising is the model as a map.
func (m model) rising() Map {
	out := Map(slices.Clone(m))
	slices.SortFunc(out, func(a, b Area) int { return a.Base - b.Base })
	return out
}

// pieces goes through the addresses one by one.
func (m model) pieces(addr, n int, write bool) ([]Piece, error) {
	if n < 0 || addr < 0 || sum(addr, n) > Limit {
		return nil, api.ErrBounds
	}
	var out []Piece
	last := -1
	for k := addr; k < addr+n; k++ {
		i := m.owner(k)
		switch {
		case i < 0:
			return nil, api.ErrBounds
		case write && !m[i].Write:
			return nil, api.ErrRights
		}
		if i != last {
			out = append(out, Piece{m[i].Segment, m[i].Offset + k - m[i].Base, 0})
			last = i
		}
		out[len(out)-1].Size++
	}
	return out, nil
}

// pair is a map, and the model of it.
type pair struct {
	x Map
	m model
}

// like tells whether an error is the one that is asked for, or none where none is.
func like(err, want error) bool {
	if want == nil {
		return err == nil
	}
	return errors.Is(err, want) && api.Number(err) == api.Number(want)
}

// add is the pair with an area more, or as it was beside an error.
func (p pair) add(t *testing.T, a Area) pair {
	t.Helper()
	was := slices.Clone(p.x)
	m, wrong := p.m.add(a)
	x, err := Add(p.x, a)
	if !slices.Equal(p.x, was) {
		t.Fatalf("Add(%v, %v) made it %v", was, a, p.x)
	}
	if !like(err, wrong) || err != nil && len(x) != 0 || err == nil && !slices.Equal(x, m.rising()) {
		t.Fatalf("Add(%v, %v): %v, %v, want %v, %v", p.x, a, x, err, m.rising(), wrong)
	}
	if err != nil {
		return p
	}
	return pair{x, m}
}

// remove is the pair without an area, or as it was beside an error.
func (p pair) remove(t *testing.T, base int) pair {
	t.Helper()
	was := slices.Clone(p.x)
	m, wrong := p.m.remove(base)
	x, err := Remove(p.x, base)
	if !slices.Equal(p.x, was) {
		t.Fatalf("Remove(%v, %d) made it %v", was, base, p.x)
	}
	if !like(err, wrong) || err != nil && len(x) != 0 || err == nil && !slices.Equal(x, m.rising()) {
		t.Fatalf("Remove(%v, %d): %v, %v, want %v, %v", p.x, base, x, err, m.rising(), wrong)
	}
	if err != nil {
		return p
	}
	return pair{x, m}
}

func (p pair) find(t *testing.T, addr int) {
	t.Helper()
	var want Area
	i := p.m.owner(addr)
	if i >= 0 {
		want = p.m[i]
	}
	if got, ok := Find(p.x, addr); got != want || ok != (i >= 0) {
		t.Fatalf("Find(%v, %d): %v, %v, want %v, %v", p.x, addr, got, ok, want, i >= 0)
	}
}

func (p pair) pieces(t *testing.T, addr, n int, write bool) {
	t.Helper()
	want, wrong := p.m.pieces(addr, n, write)
	if got, err := Pieces(p.x, addr, n, write); !slices.Equal(got, want) || !like(err, wrong) {
		t.Fatalf("Pieces(%v, %d, %d, %v): %v, %v, want %v, %v", p.x, addr, n, write, got, err, want, wrong)
	}
}

// see holds Find of each address up to one, and Pieces of each run of such addresses, against the model.
func (p pair) see(t *testing.T, most int) {
	t.Helper()
	was := slices.Clone(p.x)
	for addr := -2; addr <= most; addr++ {
		p.find(t, addr)
		for n := -2; n <= most-addr; n++ {
			p.pieces(t, addr, n, false)
			p.pieces(t, addr, n, true)
		}
	}
	if !slices.Equal(p.x, was) {
		t.Fatalf("Find or Pieces made %v of %v", p.x, was)
	}
}

// of is a pair with areas that are added in this order.
func of(t *testing.T, areas ...Area) pair {
	t.Helper()
	var p pair
	for _, a := range areas {
		p = p.add(t, a)
	}
	if len(p.x) != len(areas) {
		t.Fatalf("%v: made %v", areas, p.x)
	}
	return p
}

// made is the map with areas that are added in this order.
func made(t *testing.T, areas ...Area) Map {
	t.Helper()
	return of(t, areas...).x
}

// far is numbers at and beyond all bounds, and those whose sums go round.
var far = []int{math.MinInt, math.MinInt + 1, math.MinInt + Limit, -1 << 62, math.MinInt32, -Limit - 1, -Limit, -2, -1, 0, 1, 2, 9, 10, 11, 19, 20, Limit / 2, Limit - 20, Limit - 2, Limit - 1, Limit, Limit + 1, 1 << 31, 1 << 32, 1<<32 + 5, 1 << 62, math.MaxInt - Limit, math.MaxInt - 1, math.MaxInt}

// P10.1, P10.2, P10.3: the chapter's example.
func TestExample(t *testing.T) {
	a := Area{Base: 0, Size: 10, Segment: 1, Offset: 5}
	b := Area{Base: 10, Size: 10, Segment: 2}
	m, err := Add(nil, a)
	if err != nil || !slices.Equal(m, Map{a}) {
		t.Fatalf("Add: %v, %v", m, err)
	}
	m, err = Add(m, b)
	if err != nil || !slices.Equal(m, Map{a, b}) {
		t.Fatalf("Add: %v, %v", m, err)
	}
	if p, err := Pieces(m, 8, 4, false); !slices.Equal(p, []Piece{{1, 13, 2}, {2, 0, 2}}) || err != nil {
		t.Errorf("Pieces(8, 4): %v, %v", p, err)
	}
	if p, err := Pieces(m, 18, 4, false); len(p) != 0 || !like(err, api.ErrBounds) {
		t.Errorf("Pieces(18, 4): %v, %v", p, err)
	}
	if p, err := Pieces(m, 8, 4, true); len(p) != 0 || !like(err, api.ErrRights) {
		t.Errorf("Pieces(8, 4) to be written: %v, %v", p, err)
	}
	for _, c := range []struct {
		addr int
		want Area
		ok   bool
	}{{-1, Area{}, false}, {0, a, true}, {9, a, true}, {10, b, true}, {19, b, true}, {20, Area{}, false}} {
		if got, ok := Find(m, c.addr); got != c.want || ok != c.ok {
			t.Errorf("Find(%d): %v, %v", c.addr, got, ok)
		}
	}
	if m, err := Remove(m, 0); !slices.Equal(m, Map{b}) || err != nil {
		t.Errorf("Remove(0): %v, %v", m, err)
	}
	if m, err := Remove(m, 5); len(m) != 0 || !like(err, api.ErrNotFound) {
		t.Errorf("Remove(5): %v, %v", m, err)
	}
}

// P10.1: which areas there may be: Size from 1 on, Base from 0 on, and their sum up to Limit, though it goes round.
func TestAddBounds(t *testing.T) {
	for _, c := range []struct {
		base, size int
		want       error
	}{
		{0, 1, nil}, {0, 0, api.ErrBounds}, {0, -1, api.ErrBounds}, {0, math.MinInt, api.ErrBounds},
		{-1, 1, api.ErrBounds}, {-1, 2, api.ErrBounds}, {-5, 10, api.ErrBounds}, {math.MinInt, 1, api.ErrBounds}, {math.MinInt, math.MaxInt, api.ErrBounds},
		{0, Limit, nil}, {0, Limit + 1, api.ErrBounds}, {1, Limit - 1, nil}, {1, Limit, api.ErrBounds},
		{Limit - 1, 1, nil}, {Limit - 1, 2, api.ErrBounds}, {Limit, 1, api.ErrBounds}, {Limit, 0, api.ErrBounds}, {Limit + 1, 1, api.ErrBounds},
		{Limit + 1, -1, api.ErrBounds}, {Limit / 2, Limit / 2, nil}, {Limit / 2, Limit/2 + 1, api.ErrBounds},
		{math.MaxInt, 1, api.ErrBounds}, {1, math.MaxInt, api.ErrBounds}, {math.MaxInt, math.MaxInt, api.ErrBounds}, {Limit - 1, math.MaxInt, api.ErrBounds},
		{math.MaxInt - Limit, Limit + 1, api.ErrBounds}, {1 << 62, 1 << 62, api.ErrBounds}, {1 << 32, 1, api.ErrBounds}, {1, 1 << 32, api.ErrBounds}, {1, 1<<32 + 1, api.ErrBounds},
	} {
		a := Area{Base: c.base, Size: c.size, Segment: 3, Offset: 4, Write: true}
		m, err := Add(nil, a)
		if !like(err, c.want) || err != nil && len(m) != 0 || err == nil && !slices.Equal(m, Map{a}) {
			t.Errorf("Add(%v): %v, %v, want %v", a, m, err, c.want)
		}
	}
	for _, base := range far {
		for _, size := range far {
			pair{}.add(t, Area{Base: base, Size: size})
		}
	}
}

// P10.1: a segment and an offset from 0 on, as great as one likes, and both kinds of areas; all of it is kept.
func TestAddArgument(t *testing.T) {
	for _, segment := range far {
		for _, offset := range far {
			for _, write := range []bool{false, true} {
				a := Area{Base: 7, Size: 3, Segment: segment, Offset: offset, Write: write}
				m, err := Add(Map{}, a)
				if segment < 0 || offset < 0 {
					if len(m) != 0 || !like(err, api.ErrArgument) {
						t.Errorf("Add(%v): %v, %v", a, m, err)
					}
				} else if err != nil || !slices.Equal(m, Map{a}) {
					t.Errorf("Add(%v): %v, %v", a, m, err)
				}
			}
		}
	}
}

// full is a map of 64 areas of one address each, every second address from 1 on.
func full(t *testing.T) pair {
	t.Helper()
	var areas []Area
	for i := range 64 {
		areas = append(areas, Area{Base: 1 + 2*i, Size: 1, Segment: i, Offset: 100 * i, Write: i%3 == 0})
	}
	return of(t, areas...)
}

// P10.1: which error comes first, of every choice of those that hold.
func TestAddOrder(t *testing.T) {
	some := of(t, Area{Base: 1, Size: 3}, Area{Base: 9, Size: 4}, Area{Base: 20, Size: Limit - 20})
	for _, p := range []pair{{}, some, full(t)} {
		for _, a := range []Area{
			{Base: 0, Size: 0}, {Base: 1, Size: 0}, {Base: 1, Size: -1}, {Base: -1, Size: 1}, {Base: -1, Size: 3}, {Base: 1, Size: Limit}, {Base: Limit, Size: 1}, {Base: math.MaxInt, Size: math.MaxInt}, {Base: 21, Size: math.MaxInt}, // no such area
			{Base: 0, Size: 2}, {Base: 1, Size: 1}, {Base: 3, Size: 20}, {Base: 0, Size: Limit}, // one that overlaps others
			{Base: 0, Size: 1}, {Base: 4, Size: 1}, // one that fits
		} {
			for _, segment := range []int{5, -1, math.MinInt} {
				for _, offset := range []int{6, -1, math.MinInt} {
					a.Segment, a.Offset = segment, offset
					p.add(t, a)
				}
			}
		}
	}
	busy := full(t).x
	for _, c := range []struct {
		m    Map
		a    Area
		want error
	}{
		{busy, Area{Base: 1, Size: 0, Offset: -1}, api.ErrBounds}, {busy, Area{Base: -1, Size: 2, Segment: -1}, api.ErrBounds}, {busy, Area{Base: 1, Size: Limit, Segment: -1}, api.ErrBounds},
		{busy, Area{Base: 1, Size: 1, Offset: -1}, api.ErrArgument}, {busy, Area{Base: 1, Size: 1, Segment: -1}, api.ErrArgument},
		{busy, Area{Base: 0, Size: 1, Offset: -1}, api.ErrArgument}, {busy, Area{Base: 0, Size: 1, Segment: -1}, api.ErrArgument},
		{busy, Area{Base: 1, Size: 1}, api.ErrOverlap}, {busy, Area{Base: 0, Size: Limit}, api.ErrOverlap}, {busy, Area{Base: 126, Size: 2}, api.ErrOverlap},
		{busy, Area{Base: 0, Size: 1}, api.ErrFull}, {busy, Area{Base: 128, Size: 1}, api.ErrFull}, {busy, Area{Base: 128, Size: Limit - 128}, api.ErrFull}, {busy, Area{Base: 2, Size: 1}, api.ErrFull},
		{busy[:63], Area{Base: 1, Size: 1}, api.ErrOverlap}, {busy[:63], Area{Base: 0, Size: 1}, nil},
	} {
		m, err := Add(c.m, c.a)
		if !like(err, c.want) || err != nil && len(m) != 0 || err == nil && len(m) != len(c.m)+1 {
			t.Errorf("Add(%d areas, %v): %v, %v, want %v", len(c.m), c.a, m, err, c.want)
		}
	}
}

// P10.1: an area beside another one: one that touches it is taken; one that shares an address, at either end, within it or around it, is not.
func TestOverlap(t *testing.T) {
	old := Area{Base: 10, Size: 5, Segment: 1, Offset: 2}
	for _, c := range []struct {
		base, size int
		want       error
	}{
		{9, 1, nil}, {0, 10, nil}, {15, 1, nil}, {15, Limit - 15, nil}, {16, 2, nil}, {7, 2, nil},
		{9, 2, api.ErrOverlap}, {0, 11, api.ErrOverlap}, {14, 1, api.ErrOverlap}, {14, 5, api.ErrOverlap}, {14, Limit - 14, api.ErrOverlap},
		{10, 1, api.ErrOverlap}, {12, 1, api.ErrOverlap}, {11, 3, api.ErrOverlap}, {10, 5, api.ErrOverlap},
		{9, 6, api.ErrOverlap}, {10, 6, api.ErrOverlap}, {9, 7, api.ErrOverlap}, {0, Limit, api.ErrOverlap}, {10, Limit - 10, api.ErrOverlap},
	} {
		a := Area{Base: c.base, Size: c.size}
		want := Map{old, a}
		if c.base < 10 {
			want = Map{a, old}
		}
		m, err := Add(Map{old}, a)
		if !like(err, c.want) || err != nil && len(m) != 0 || err == nil && !slices.Equal(m, want) {
			t.Errorf("Add(%v): %v, %v, want %v", a, m, err, c.want)
		}
	}
	for k := range 10 * 10 * 10 * 10 {
		of(t, Area{Base: k % 10, Size: 1 + k/10%10}).add(t, Area{Base: k / 100 % 10, Size: 1 + k/1000})
	}
	three := of(t, Area{Base: 12, Size: 3}, Area{Base: 3, Size: 2}, Area{Base: 5, Size: 4})
	for base := range 20 {
		for size := 1; size < 20; size++ {
			three.add(t, Area{Base: base, Size: size, Segment: 9})
		}
	}
}

// P10.1: an area that ends at Limit, and others beside it.
func TestAddLimit(t *testing.T) {
	p := of(t, Area{Base: Limit - 10, Size: 10, Segment: 1})
	for base := Limit - 14; base <= Limit+2; base++ {
		for size := -1; size <= 16; size++ {
			p.add(t, Area{Base: base, Size: size})
		}
	}
	q := of(t, Area{Base: 0, Size: Limit})
	for _, base := range []int{0, 1, Limit / 2, Limit - 1, Limit} {
		for _, size := range []int{0, 1, 2, Limit - 1, Limit} {
			q.add(t, Area{Base: base, Size: size})
		}
	}
}

// P10.1: 64 areas and one more; with one of them gone there is room for one again, and for no other.
func TestFull(t *testing.T) {
	p := full(t)
	for _, base := range []int{0, 2, 64, 126, 128, Limit - 1} {
		if m, err := Add(p.x, Area{Base: base, Size: 1}); len(m) != 0 || !like(err, api.ErrFull) {
			t.Errorf("one more at %d: %v, %v", base, m, err)
		}
	}
	for i := range 64 {
		q := p.remove(t, 1+2*i)
		if len(q.x) != 63 {
			t.Fatalf("Remove(%d): %d areas", 1+2*i, len(q.x))
		}
		for _, a := range []Area{{Base: 0, Size: 1}, {Base: 128, Size: 5}, {Base: 2 * i, Size: 3, Segment: 70}} {
			r := q.add(t, a)
			if len(r.x) != 64 {
				t.Fatalf("Remove(%d), Add(%v): %d areas", 1+2*i, a, len(r.x))
			}
			r.add(t, Area{Base: 500, Size: 1})
		}
	}
}

// orders calls with every order of numbers below n.
func orders(n int, f func([]int)) {
	var grow func(chosen []int)
	grow = func(chosen []int) {
		if len(chosen) == n {
			f(chosen)
		}
		for k := range n {
			if !slices.Contains(chosen, k) {
				grow(append(slices.Clone(chosen), k))
			}
		}
	}
	grow(nil)
}

// P10.1: a map rises by Base, whichever area was added first, and whichever is removed first.
func TestOrder(t *testing.T) {
	areas := Map{{Base: 0, Size: 3, Segment: 5}, {Base: 3, Size: 1, Segment: 4, Write: true}, {Base: 6, Size: 2, Segment: 3, Offset: 9}, {Base: 8, Size: 9, Segment: 2}, {Base: 30, Size: 5, Segment: 1}, {Base: Limit - 1, Size: 1}}
	orders(len(areas), func(order []int) {
		var m Map
		for _, i := range order {
			m, _ = Add(m, areas[i])
		}
		if !slices.Equal(m, areas) {
			t.Fatalf("%v: %v", order, m)
		}
		for k, i := range order {
			m, _ = Remove(m, areas[i].Base)
			left := slices.DeleteFunc(slices.Clone(areas), func(a Area) bool { return slices.Contains(order[:k+1], slices.Index(areas, a)) })
			if !slices.Equal(m, left) {
				t.Fatalf("%v, %d removed: %v, want %v", order, k+1, m, left)
			}
		}
	})
}

// P10.1: Remove takes the area of just that Base: an address within it, or beside it, is none.
func TestRemove(t *testing.T) {
	p := of(t, Area{Base: 20, Size: 5}, Area{Base: 0, Size: 3, Segment: 1}, Area{Base: 3, Size: 4, Write: true}, Area{Base: Limit - 2, Size: 2})
	for base := -3; base <= 30; base++ {
		q := p.remove(t, base)
		q.remove(t, base)
		q.see(t, 26)
	}
	for _, base := range far {
		p.remove(t, base)
		pair{}.remove(t, base)
		pair{x: Map{}}.remove(t, base)
	}
	for _, c := range []struct {
		base int
		want error
	}{{20, nil}, {24, api.ErrNotFound}, {25, api.ErrNotFound}, {19, api.ErrNotFound}, {1, api.ErrNotFound}, {0, nil}, {3, nil}, {-1, api.ErrNotFound}, {Limit - 2, nil}, {Limit - 1, api.ErrNotFound}, {Limit, api.ErrNotFound}} {
		m, err := Remove(p.x, c.base)
		if !like(err, c.want) || err != nil && len(m) != 0 || err == nil && len(m) != 3 {
			t.Errorf("Remove(%d): %v, %v, want %v", c.base, m, err, c.want)
		}
	}
	last := of(t, Area{Base: 5, Size: 5})
	if m, err := Remove(last.x, 5); len(m) != 0 || err != nil {
		t.Errorf("Remove of the last: %v, %v", m, err)
	}
}

// P10.1: an area may be added again where one was removed, and then is found as the new one.
func TestAgain(t *testing.T) {
	p := of(t, Area{Base: 4, Size: 4, Segment: 1}, Area{Base: 8, Size: 4, Segment: 2})
	a := Area{Base: 3, Size: 5, Segment: 7, Offset: 1, Write: true}
	p.add(t, a)
	q := p.remove(t, 4).add(t, a)
	if len(q.x) != 2 {
		t.Fatalf("added again: %v", q.x)
	}
	q.see(t, 14)
	p.see(t, 14)
}

// W6, P10.1: the map that is handed in stays as it was, the room behind it too, and what is answered shares nothing with it.
func TestHandedIn(t *testing.T) {
	areas := Map{{Base: 2, Size: 2, Segment: 1}, {Base: 6, Size: 2, Segment: 2}, {Base: 10, Size: 2, Segment: 3}}
	behind := Area{Base: 77, Size: 7, Segment: 7, Offset: 7}
	fresh := func() Map {
		m := slices.Clone(areas)
		for len(m) < 8 {
			m = append(m, behind)
		}
		return m
	}
	calls := []func(Map) (Map, error){}
	for _, base := range []int{0, 4, 8, 12} {
		calls = append(calls, func(m Map) (Map, error) { return Add(m, Area{Base: base, Size: 2}) })
	}
	for _, a := range areas {
		calls = append(calls, func(m Map) (Map, error) { return Remove(m, a.Base) })
	}
	for i, call := range calls {
		room := fresh()
		m := room[:3]
		got, err := call(m)
		if err != nil || !slices.Equal(room, fresh()) {
			t.Errorf("call %d: %v, it is %v", i, err, room)
		}
		want := slices.Clone(got)
		for k := range got {
			got[k] = Area{Base: 1000 + k}
		}
		_ = append(got, Area{Base: 2000})
		if !slices.Equal(room, fresh()) {
			t.Errorf("call %d: what it answered is that what was handed in: %v", i, room)
		}
		got, _ = call(m)
		clear(room)
		if !slices.Equal(got, want) {
			t.Errorf("call %d: what it answered is that what was handed in: %v", i, got)
		}
	}
	wrong := []func(Map) (Map, error){
		func(m Map) (Map, error) { return Add(m, Area{Base: 3, Size: 2}) },
		func(m Map) (Map, error) { return Add(m, Area{Base: 4, Size: 0}) },
		func(m Map) (Map, error) { return Add(m, Area{Base: 4, Size: 1, Offset: -1}) },
		func(m Map) (Map, error) { return Remove(m, 3) },
	}
	for i, call := range wrong {
		room := fresh()
		if got, err := call(room[:3]); len(got) != 0 || err == nil || !slices.Equal(room, fresh()) {
			t.Errorf("wrong call %d: %v, %v, it is %v", i, got, err, room)
		}
	}
}

// W6: several maps made of one do not change one another, nor do pieces that were told.
func TestBranches(t *testing.T) {
	p := of(t, Area{Base: 0, Size: 4, Segment: 1}, Area{Base: 10, Size: 4, Segment: 2})
	a, b, c := p.add(t, Area{Base: 4, Size: 3, Segment: 3}), p.add(t, Area{Base: 20, Size: 3, Segment: 4}), p.remove(t, 0)
	d, e := b.add(t, Area{Base: 23, Size: 1}), b.add(t, Area{Base: 24, Size: 1, Write: true})
	for _, q := range []pair{p, a, b, c, d, e} {
		if !slices.Equal(q.x, q.m.rising()) {
			t.Errorf("%v, want %v", q.x, q.m.rising())
		}
		q.see(t, 27)
	}
	one, _ := Pieces(a.x, 2, 5, false)
	two, _ := Pieces(a.x, 2, 5, false)
	clear(one)
	if want, _ := a.m.pieces(2, 5, false); !slices.Equal(two, want) {
		t.Errorf("pieces told twice: %v, want %v", two, want)
	}
}

// P10.2: the first and the last address of an area, and those just beside it; addresses below 0, and far ones.
func TestFind(t *testing.T) {
	areas := []Area{{Base: 1, Size: 1, Segment: 1}, {Base: 2, Size: 3, Segment: 2, Offset: 7, Write: true}, {Base: 8, Size: 2}, {Base: Limit - 3, Size: 3, Segment: 4}}
	m := made(t, areas[2], areas[0], areas[3], areas[1])
	for _, c := range []struct{ addr, want int }{
		{-1, -1}, {0, -1}, {1, 0}, {2, 1}, {3, 1}, {4, 1}, {5, -1}, {7, -1}, {8, 2}, {9, 2}, {10, -1}, {Limit - 4, -1}, {Limit - 3, 3}, {Limit - 2, 3}, {Limit - 1, 3}, {Limit, -1}, {Limit + 1, -1},
		{math.MinInt, -1}, {math.MinInt + 1, -1}, {math.MinInt + 3, -1}, {-Limit, -1}, {math.MaxInt, -1}, {math.MaxInt - 1, -1}, {1<<32 + 1, -1}, {1<<32 + 8, -1},
	} {
		want := Area{}
		if c.want >= 0 {
			want = areas[c.want]
		}
		if got, ok := Find(m, c.addr); got != want || ok != (c.want >= 0) {
			t.Errorf("Find(%d): %v, %v, want %v", c.addr, got, ok, want)
		}
		for _, none := range []Map{nil, {}} {
			if got, ok := Find(none, c.addr); got != (Area{}) || ok {
				t.Errorf("Find(%d) in none: %v, %v", c.addr, got, ok)
			}
		}
	}
}

// P10.2: in a map of 64 areas each of them is found, and what lies between is not; so is all of an area that has all addresses.
func TestFindMany(t *testing.T) {
	p := full(t)
	for addr := -2; addr <= 130; addr++ {
		p.find(t, addr)
	}
	all := of(t, Area{Base: 0, Size: Limit, Segment: 9})
	for _, addr := range far {
		all.find(t, addr)
		p.find(t, addr)
	}
}

// P10.3: pieces within one area, over two and more, of no addresses at all, and where areas leave something out.
func TestPieces(t *testing.T) {
	m := made(t,
		Area{Base: 10, Size: 5, Segment: 2, Write: true}, Area{Base: 0, Size: 10, Segment: 1, Offset: 100, Write: true}, Area{Base: 15, Size: 1, Segment: 1, Offset: 100},
		Area{Base: 16, Size: 4, Segment: 2, Offset: 5, Write: true}, Area{Base: 30, Size: 2, Segment: 3, Offset: 1})
	for _, c := range []struct {
		addr, n int
		write   bool
		want    []Piece
		err     error
	}{
		{0, 1, false, []Piece{{1, 100, 1}}, nil}, {0, 10, true, []Piece{{1, 100, 10}}, nil}, {9, 1, true, []Piece{{1, 109, 1}}, nil}, {3, 4, false, []Piece{{1, 103, 4}}, nil},
		{9, 2, true, []Piece{{1, 109, 1}, {2, 0, 1}}, nil}, {10, 1, true, []Piece{{2, 0, 1}}, nil}, {14, 1, true, []Piece{{2, 4, 1}}, nil},
		{0, 15, true, []Piece{{1, 100, 10}, {2, 0, 5}}, nil}, {0, 16, true, nil, api.ErrRights}, {15, 1, true, nil, api.ErrRights}, {15, 1, false, []Piece{{1, 100, 1}}, nil},
		{4, 16, false, []Piece{{1, 104, 6}, {2, 0, 5}, {1, 100, 1}, {2, 5, 4}}, nil}, {12, 5, false, []Piece{{2, 2, 3}, {1, 100, 1}, {2, 5, 1}}, nil},
		{0, 20, false, []Piece{{1, 100, 10}, {2, 0, 5}, {1, 100, 1}, {2, 5, 4}}, nil}, {0, 21, false, nil, api.ErrBounds}, {19, 2, true, nil, api.ErrBounds}, {20, 1, false, nil, api.ErrBounds},
		{14, 20, true, nil, api.ErrRights}, {14, 20, false, nil, api.ErrBounds}, {19, 12, true, nil, api.ErrBounds}, {29, 2, true, nil, api.ErrBounds}, {29, 2, false, nil, api.ErrBounds},
		{30, 2, true, nil, api.ErrRights}, {30, 3, true, nil, api.ErrRights}, {30, 3, false, nil, api.ErrBounds}, {30, 2, false, []Piece{{3, 1, 2}}, nil}, {31, 1, false, []Piece{{3, 2, 1}}, nil}, {32, 1, false, nil, api.ErrBounds},
		{0, 0, true, nil, nil}, {15, 0, true, nil, nil}, {25, 0, true, nil, nil}, {25, 0, false, nil, nil}, {Limit, 0, true, nil, nil}, {Limit - 1, 0, false, nil, nil},
		{Limit + 1, 0, false, nil, api.ErrBounds}, {Limit, 1, true, nil, api.ErrBounds}, {-1, 0, false, nil, api.ErrBounds}, {-1, 1, true, nil, api.ErrBounds}, {-1, 5, false, nil, api.ErrBounds}, {0, -1, true, nil, api.ErrBounds}, {15, -1, true, nil, api.ErrBounds},
		{15, Limit, true, nil, api.ErrBounds}, {15, Limit - 14, true, nil, api.ErrBounds}, {15, Limit - 15, true, nil, api.ErrRights}, {15, math.MaxInt, true, nil, api.ErrBounds}, {math.MaxInt, math.MaxInt, true, nil, api.ErrBounds},
		{math.MinInt, math.MinInt, true, nil, api.ErrBounds}, {-15, 30, true, nil, api.ErrBounds},
	} {
		if got, err := Pieces(m, c.addr, c.n, c.write); !slices.Equal(got, c.want) || !like(err, c.err) {
			t.Errorf("Pieces(%d, %d, %v): %v, %v, want %v, %v", c.addr, c.n, c.write, got, err, c.want, c.err)
		}
	}
}

// P10.3: an addr or an n below 0, and a sum above Limit, though it goes round, ahead of all that the map has.
func TestPiecesBounds(t *testing.T) {
	maps := []Map{nil, {}, made(t, Area{Base: 0, Size: Limit}), made(t, Area{Base: 0, Size: Limit, Write: true}), full(t).x}
	for _, m := range maps {
		for _, addr := range far {
			for _, n := range far {
				if addr >= 0 && n >= 0 && sum(addr, n) <= Limit {
					continue
				}
				for _, write := range []bool{false, true} {
					if got, err := Pieces(m, addr, n, write); len(got) != 0 || !like(err, api.ErrBounds) {
						t.Errorf("Pieces(%d areas, %d, %d, %v): %v, %v", len(m), addr, n, write, got, err)
					}
				}
			}
		}
	}
}

// P10.3: pieces as great as there are, and up to Limit.
func TestPiecesLimit(t *testing.T) {
	one := made(t, Area{Base: 0, Size: Limit, Segment: 3, Offset: 11})
	for _, addr := range []int{0, 1, 5, Limit / 2, Limit - 2, Limit - 1} {
		for _, n := range []int{1, 2, Limit / 2, Limit - 5, Limit - 1, Limit} {
			want, wrong := []Piece{{3, 11 + addr, n}}, error(nil)
			if addr+n > Limit {
				want, wrong = nil, api.ErrBounds
			}
			if got, err := Pieces(one, addr, n, false); !slices.Equal(got, want) || !like(err, wrong) {
				t.Errorf("Pieces(%d, %d): %v, %v", addr, n, got, err)
			}
			if wrong == nil {
				wrong = api.ErrRights
			}
			if got, err := Pieces(one, addr, n, true); len(got) != 0 || !like(err, wrong) {
				t.Errorf("Pieces(%d, %d) to be written: %v, %v", addr, n, got, err)
			}
		}
	}
	two := made(t, Area{Base: Limit / 2, Size: Limit / 2, Segment: 2}, Area{Base: 0, Size: Limit / 2, Segment: 1, Offset: 1 << 40})
	if got, err := Pieces(two, 1, Limit-1, false); !slices.Equal(got, []Piece{{1, 1<<40 + 1, Limit/2 - 1}, {2, 0, Limit / 2}}) || err != nil {
		t.Errorf("Pieces over both halves: %v, %v", got, err)
	}
	gap := made(t, Area{Base: Limit / 2, Size: Limit/2 - 1, Segment: 2}, Area{Base: 0, Size: Limit / 2, Segment: 1})
	if got, err := Pieces(gap, 0, Limit-1, false); !slices.Equal(got, []Piece{{1, 0, Limit / 2}, {2, 0, Limit/2 - 1}}) || err != nil {
		t.Errorf("Pieces up to the last address: %v, %v", got, err)
	}
	if got, err := Pieces(gap, 0, Limit, false); len(got) != 0 || !like(err, api.ErrBounds) {
		t.Errorf("Pieces with the last address in no area: %v, %v", got, err)
	}
}

// P10.3: pieces over all 64 areas, one of an address each.
func TestPiecesMany(t *testing.T) {
	var m Map
	var want []Piece
	for i := range 64 {
		m, _ = Add(m, Area{Base: 63 - i, Size: 1, Segment: 63 - i, Offset: i, Write: i != 20})
		want = append(want, Piece{i, 63 - i, 1})
	}
	for addr := range 64 {
		for n := 0; n <= 64-addr; n++ {
			if got, err := Pieces(m, addr, n, false); !slices.Equal(got, want[addr:addr+n]) || err != nil {
				t.Fatalf("Pieces(%d, %d): %v, %v", addr, n, got, err)
			}
			wrong := error(nil)
			if addr <= 43 && 43 < addr+n {
				wrong = api.ErrRights
			}
			if got, err := Pieces(m, addr, n, true); !like(err, wrong) || wrong != nil && len(got) != 0 {
				t.Fatalf("Pieces(%d, %d) to be written: %v, %v", addr, n, got, err)
			}
		}
	}
}

// P10.3, W5: Offset and how far the first address is behind Base is a sum that goes round.
func TestPiecesRound(t *testing.T) {
	m := made(t, Area{Base: 4, Size: 10, Segment: math.MaxInt, Offset: math.MaxInt - 2}, Area{Base: 14, Size: Limit - 14, Segment: 1, Offset: math.MaxInt})
	for _, c := range []struct {
		addr, n int
		want    []Piece
	}{
		{4, 2, []Piece{{math.MaxInt, math.MaxInt - 2, 2}}}, {6, 1, []Piece{{math.MaxInt, math.MaxInt, 1}}}, {7, 3, []Piece{{math.MaxInt, math.MinInt, 3}}}, {9, 6, []Piece{{math.MaxInt, math.MinInt + 2, 5}, {1, math.MaxInt, 1}}},
		{15, 1, []Piece{{1, math.MinInt, 1}}}, {Limit - 1, 1, []Piece{{1, math.MinInt + Limit - 16, 1}}},
	} {
		if got, err := Pieces(m, c.addr, c.n, false); !slices.Equal(got, c.want) || err != nil {
			t.Errorf("Pieces(%d, %d): %v, %v, want %v", c.addr, c.n, got, err, c.want)
		}
	}
}

// P10.2, P10.3: every map over seven addresses, each of them in an area that begins there, goes on there, or in none, with each area to be written or not.
func TestAllMaps(t *testing.T) {
	const none, goes, reads, writes = 0, 1, 2, 3
	for k := range 1 << 14 {
		var areas []Area
		inside := false
		valid := true
		for addr := range 7 {
			switch k >> (2 * addr) & 3 {
			case none:
				inside = false
			case goes:
				valid = valid && inside
				if valid {
					areas[len(areas)-1].Size++
				}
			case reads:
				areas, inside = append(areas, Area{Base: addr, Size: 1, Segment: addr % 3, Offset: 5 * addr}), true
			case writes:
				areas, inside = append(areas, Area{Base: addr, Size: 1, Segment: addr % 3, Offset: 7, Write: true}), true
			}
		}
		if !valid {
			continue
		}
		slices.Reverse(areas)
		of(t, areas...).see(t, 8)
	}
}

// P10.1, P10.2, P10.3: every run of four of eleven steps.
func TestAllRuns(t *testing.T) {
	steps := []func(*testing.T, pair) pair{}
	for _, a := range []Area{{Base: 0, Size: 2, Segment: 1}, {Base: 2, Size: 2, Segment: 2, Offset: 3, Write: true}, {Base: 1, Size: 2, Segment: 3, Write: true}, {Base: 3, Size: 1, Segment: 4, Offset: 1}, {Base: 5, Size: 1, Segment: 5}, {Base: 0, Size: 6, Segment: 6}, {Base: 4, Size: 1, Segment: 7, Write: true}} {
		steps = append(steps, func(t *testing.T, p pair) pair { return p.add(t, a) })
	}
	for _, base := range []int{0, 1, 2, 3} {
		steps = append(steps, func(t *testing.T, p pair) pair { return p.remove(t, base) })
	}
	var walk func(p pair, left int)
	walk = func(p pair, left int) {
		if left == 0 {
			p.see(t, 7)
			return
		}
		for _, step := range steps {
			walk(step(t, p), left-1)
		}
	}
	walk(pair{}, 4)
}

// strewn is numbers that look like none in particular.
type strewn uint64

func (s *strewn) below(n int) int {
	*s = *s*6364136223846793005 + 1442695040888963407
	return int(uint64(*s) >> 33 % uint64(n))
}

// P10.1, P10.2, P10.3: long runs of steps that are strewn, on few addresses and on many.
func TestStrewn(t *testing.T) {
	for seed := range 12 {
		s := strewn(seed)
		most := []int{20, 60, 200, 700}[seed%4]
		var p pair
		for range 1500 {
			switch s.below(8) {
			case 0, 1, 2, 3:
				p = p.add(t, Area{Base: s.below(most) - 1, Size: s.below(most/8) - 1, Segment: s.below(20) - 1, Offset: s.below(50) - 1, Write: s.below(2) == 0})
			case 4:
				p = p.remove(t, s.below(most)-1)
			case 5:
				if len(p.x) > 0 {
					p = p.remove(t, p.x[s.below(len(p.x))].Base)
				}
			}
			for range 6 {
				p.find(t, s.below(most+8)-2)
				p.pieces(t, s.below(most+8)-2, s.below(most/2)-1, s.below(2) == 0)
			}
			if len(p.x) > 0 {
				a := p.x[s.below(len(p.x))]
				p.pieces(t, a.Base+s.below(a.Size), s.below(2*a.Size+2), s.below(2) == 0)
			}
		}
	}
}

// P10.1, W1: of a map that Add did not make nothing is promised but that calls end, and do not panic; it is not changed either.
func TestStrange(t *testing.T) {
	var odd []Area
	for _, base := range far {
		for _, size := range far {
			odd = append(odd, Area{Base: base, Size: size, Segment: base, Offset: size, Write: size%2 == 0})
		}
	}
	maps := []Map{odd, slices.Clone(odd)}
	slices.Reverse(maps[1])
	for _, a := range odd {
		maps = append(maps, Map{a}, Map{a, {Base: 0, Size: 20, Write: true}}, Map{{Base: 15, Size: 2}, a, {Base: 0, Size: 15}, a})
	}
	for _, m := range maps {
		was := slices.Clone(m)
		for _, addr := range far {
			Find(m, addr)
			Remove(m, addr)
			Add(m, Area{Base: addr, Size: 1})
			for _, n := range []int{math.MinInt, -1, 0, 1, 2, 10, 20, Limit - 10, Limit, math.MaxInt} {
				Add(m, Area{Base: addr, Size: n, Offset: n})
				Pieces(m, addr, n, false)
				Pieces(m, addr, n, true)
			}
		}
		if !slices.Equal(m, was) {
			t.Fatalf("%v is %v", was, m)
		}
	}
}

// W1: a map of many areas that Add did not make: calls of it end soon, whichever way the areas lie.
func TestStrangeMany(t *testing.T) {
	const many = 1 << 18
	rises, falls, same := make(Map, many), make(Map, many), make(Map, many)
	for i := range many {
		rises[i] = Area{Base: i, Size: 1}
		falls[i] = Area{Base: many - 1 - i, Size: 1}
		same[i] = Area{Base: 0, Size: i}
	}
	for _, m := range []Map{rises, falls, same} {
		Add(m, Area{Base: 5, Size: many})
		Add(m, Area{Base: many, Size: many})
		Remove(m, many-1)
		Find(m, many-1)
		Find(m, many)
		Pieces(m, 0, many, false)
		Pieces(m, 0, Limit, false)
	}
}
