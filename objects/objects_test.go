package objects

import (
	"errors"
	"math"
	"slices"
	"testing"

	"sigillum/api"
	"sigillum/oracle"
	"sigillum/tape"
)

// The edges of ports, of what objects stand for, and of numbers that no object has.
var (
	ports   = []uint64{0, 1, 3, 255, 256, 256 + 3, 1 << 16, 1<<16 + 3, 1 << 32, 1<<32 + 3, api.Word - 1, api.Word, api.Word + 1, api.Word + 4, 1 << 63, 1<<63 + 3, math.MaxInt64, math.MaxUint64 - 1, math.MaxUint64}
	values  = []int{math.MinInt64, math.MinInt64 + 1, math.MinInt32, -2, -1, 0, 1, 63, 64, math.MaxInt32, 1 << 32, math.MaxInt64 - 1, math.MaxInt64}
	nowhere = []int{math.MinInt64, math.MinInt64 + 1, math.MinInt32, -65, -64, -63, -2, -1, 64, 65, 127, 128, 255, 256, 1 << 16, 1<<24 - 1, 1 << 24, math.MaxInt32, 1 << 31, math.MaxUint32, 1 << 32, 1<<32 + 1, 1 << 48, math.MaxInt64 - 1, math.MaxInt64}
)

// fact is what the model knows of an object: all secrets that were drawn for it, of which the last one holds, and the round in which it was made or touched last.
type fact struct {
	secrets []uint64
	value   int
	since   int
}

// model has objects by their numbers, and no count that goes down: epochs and rounds it works out.
type model struct {
	port  uint64
	list  []uint64 // the draws that are left
	asked []oracle.Entry
	round int
	facts map[int]fact
}

func (m *model) draw() (uint64, api.Errno) {
	if len(m.list) == 0 {
		return 0, api.ErrTape
	}
	word := m.list[0] % (1 << 48)
	m.list = m.list[1:]
	return word, 0
}

// check is the check of object k for rights.
func (m *model) check(k int, rights uint8) (uint64, api.Errno) {
	secret := m.secret(k)
	if rights == 255 {
		return secret, 0
	}
	in := secret ^ uint64(rights)
	for _, e := range m.asked {
		if e.In == in {
			return e.Out, 0
		}
	}
	out, fault := m.draw()
	if fault != 0 {
		return 0, fault
	}
	m.asked = append(m.asked, oracle.Entry{Of: oracle.Check, In: in, Out: out})
	return out, 0
}

func (m *model) secret(k int) uint64 {
	all := m.facts[k].secrets
	return all[len(all)-1]
}

// rounds is how many object k lives on.
func (m *model) rounds(k int) int {
	if k == 0 {
		return 24
	}
	return 24 - (m.round - m.facts[k].since)
}

// owner is the owner's capability of object k.
func (m *model) owner(k int) api.Cap {
	return api.Cap{Port: m.port, Object: uint32(k), Rights: 255, Check: m.secret(k)}
}

func (m *model) create(value int) (api.Cap, api.Errno) {
	if len(m.facts) == 64 {
		return api.Cap{}, api.ErrFull
	}
	secret, fault := m.draw()
	if fault != 0 {
		return api.Cap{}, fault
	}
	k := 0
	for {
		if _, ok := m.facts[k]; !ok {
			break
		}
		k++
	}
	m.facts[k] = fact{secrets: []uint64{secret}, value: value, since: m.round}
	return m.owner(k), 0
}

func (m *model) take(c api.Cap, need uint8) (int, api.Errno) {
	k := int(c.Object)
	if _, ok := m.facts[k]; !ok || c.Port != m.port {
		return 0, api.ErrCapability
	}
	check, fault := m.check(k, c.Rights)
	switch {
	case fault != 0:
		return 0, fault
	case check != c.Check:
		return 0, api.ErrCapability
	}
	for bit := uint8(1); bit != 0; bit <<= 1 {
		if need&bit != 0 && c.Rights&bit == 0 {
			return 0, api.ErrRights
		}
	}
	return k, 0
}

func (m *model) restrict(c api.Cap, mask uint8) (api.Cap, api.Errno) {
	k, fault := m.take(c, 0)
	if fault != 0 {
		return api.Cap{}, fault
	}
	check, fault := m.check(k, c.Rights&mask)
	if fault != 0 {
		return api.Cap{}, fault
	}
	return api.Cap{Port: m.port, Object: uint32(k), Rights: c.Rights & mask, Check: check}, 0
}

func (m *model) revoke(c api.Cap) (api.Cap, api.Errno) {
	k, fault := m.take(c, 255)
	if fault != 0 {
		return api.Cap{}, fault
	}
	secret, fault := m.draw()
	if fault != 0 {
		return api.Cap{}, fault
	}
	f := m.facts[k]
	m.facts[k] = fact{append(slices.Clone(f.secrets), secret), f.value, f.since}
	return m.owner(k), 0
}

func (m *model) destroy(c api.Cap) (int, int, api.Errno) {
	k, fault := m.take(c, 8)
	if fault != 0 {
		return 0, 0, fault
	}
	value := m.facts[k].value
	delete(m.facts, k)
	return k, value, 0
}

func (m *model) touch(c api.Cap) api.Errno {
	k, fault := m.take(c, 0)
	if fault != 0 {
		return fault
	}
	f := m.facts[k]
	m.facts[k] = fact{f.secrets, f.value, m.round}
	return 0
}

func (m *model) info(c api.Cap) (int, int, api.Errno) {
	k, fault := m.take(c, 0)
	if fault != 0 {
		return 0, 0, fault
	}
	return len(m.facts[k].secrets) - 1, m.rounds(k), 0
}

func (m *model) age() []int {
	m.round++
	var gone []int
	for _, k := range m.numbers() {
		if m.rounds(k) == 0 {
			gone = append(gone, m.facts[k].value)
			delete(m.facts, k)
		}
	}
	return gone
}

// numbers is those of all objects, rising.
func (m *model) numbers() []int {
	var ks []int
	for k := range m.facts {
		ks = append(ks, k)
	}
	slices.Sort(ks)
	return ks
}

// tells is whether an error is the one that is wanted; 0 is none.
func tells(e error, want api.Errno) bool {
	if want == 0 {
		return e == nil
	}
	return errors.Is(e, want) && api.Number(e) == want
}

// pair is a table over an oracle, and the model of both.
type pair struct {
	x *Table
	o *oracle.Oracle
	m *model
}

func over(port uint64, list ...uint64) pair {
	o := oracle.Of(tape.Of(list))
	return pair{Of(port, o), o, &model{port: port, list: list, facts: map[int]fact{}}}
}

// draws is a list of as many words, from 1000 on.
func draws(many int) []uint64 {
	list := make([]uint64, many)
	for k := range list {
		list[k] = 1000 * uint64(k+1)
	}
	return list
}

// fill is a table of the port 3 with so many objects, which stand for 100 and so on, and with so many draws left.
func fill(t *testing.T, many, left int) pair {
	t.Helper()
	a := over(3, draws(many+left)...)
	for k := range many {
		a.create(t, 100+k)
	}
	if a.o.Left() != left || a.x.Len() != many {
		t.Fatalf("%d objects and %d left; want %d and %d", a.x.Len(), a.o.Left(), many, left)
	}
	return a
}

// look holds all that can be asked for without a draw against the model, twice: nothing changes by it.
func (a pair) look(t *testing.T, after string) {
	t.Helper()
	for range 2 {
		if a.x.Len() != len(a.m.facts) || a.o.Left() != len(a.m.list) || !slices.Equal(a.o.Entries(), a.m.asked) {
			t.Fatalf("after %s: Len %d, %d left, %v; want %d, %d, %v", after, a.x.Len(), a.o.Left(), a.o.Entries(), len(a.m.facts), len(a.m.list), a.m.asked)
		}
		for k := -1; k <= 64; k++ {
			f, there := a.m.facts[k]
			if v, ok := a.x.Value(k); v != f.value || ok != there {
				t.Fatalf("after %s: Value(%d): %d, %v; want %d, %v", after, k, v, ok, f.value, there)
			}
			if !there {
				continue
			}
			epoch, rounds, _ := a.m.info(a.m.owner(k))
			if e, r, err := a.x.Info(a.m.owner(k)); e != epoch || r != rounds || err != nil {
				t.Fatalf("after %s: Info of %d: %d, %d, %v; want %d, %d", after, k, e, r, err, epoch, rounds)
			}
		}
	}
}

func (a pair) create(t *testing.T, value int) (api.Cap, api.Errno) {
	t.Helper()
	want, fault := a.m.create(value)
	if c, e := a.x.Create(value); c != want || !tells(e, fault) {
		t.Fatalf("Create(%d): %v, %v; want %v, %v", value, c, e, want, fault)
	}
	a.look(t, "Create")
	return want, fault
}

func (a pair) check(t *testing.T, c api.Cap, need uint8) api.Errno {
	t.Helper()
	want, fault := a.m.take(c, need)
	if k, e := a.x.Check(c, need); k != want || !tells(e, fault) {
		t.Fatalf("Check(%v, %d): %d, %v; want %d, %v", c, need, k, e, want, fault)
	}
	a.look(t, "Check")
	return fault
}

func (a pair) restrict(t *testing.T, c api.Cap, mask uint8) (api.Cap, api.Errno) {
	t.Helper()
	want, fault := a.m.restrict(c, mask)
	if r, e := a.x.Restrict(c, mask); r != want || !tells(e, fault) {
		t.Fatalf("Restrict(%v, %d): %v, %v; want %v, %v", c, mask, r, e, want, fault)
	}
	a.look(t, "Restrict")
	return want, fault
}

func (a pair) revoke(t *testing.T, c api.Cap) (api.Cap, api.Errno) {
	t.Helper()
	want, fault := a.m.revoke(c)
	if n, e := a.x.Revoke(c); n != want || !tells(e, fault) {
		t.Fatalf("Revoke(%v): %v, %v; want %v, %v", c, n, e, want, fault)
	}
	a.look(t, "Revoke")
	return want, fault
}

func (a pair) destroy(t *testing.T, c api.Cap) api.Errno {
	t.Helper()
	number, value, fault := a.m.destroy(c)
	if k, v, e := a.x.Destroy(c); k != number || v != value || !tells(e, fault) {
		t.Fatalf("Destroy(%v): %d, %d, %v; want %d, %d, %v", c, k, v, e, number, value, fault)
	}
	a.look(t, "Destroy")
	return fault
}

func (a pair) touch(t *testing.T, c api.Cap) api.Errno {
	t.Helper()
	fault := a.m.touch(c)
	if e := a.x.Touch(c); !tells(e, fault) {
		t.Fatalf("Touch(%v): %v; want %v", c, e, fault)
	}
	a.look(t, "Touch")
	return fault
}

func (a pair) info(t *testing.T, c api.Cap) api.Errno {
	t.Helper()
	epoch, rounds, fault := a.m.info(c)
	if k, l, e := a.x.Info(c); k != epoch || l != rounds || !tells(e, fault) {
		t.Fatalf("Info(%v): %d, %d, %v; want %d, %d, %v", c, k, l, e, epoch, rounds, fault)
	}
	a.look(t, "Info")
	return fault
}

func (a pair) age(t *testing.T) int {
	t.Helper()
	want := a.m.age()
	if gone := a.x.Age(); !slices.Equal(gone, want) {
		t.Fatalf("Age: %v; want %v", gone, want)
	}
	a.look(t, "Age")
	return len(want)
}

// refused has each call that takes a capability answer one error.
func (a pair) refused(t *testing.T, c api.Cap, want api.Errno) {
	t.Helper()
	_, all := a.restrict(t, c, 255)
	_, none := a.restrict(t, c, 0)
	_, anew := a.revoke(t, c)
	for k, fault := range []api.Errno{all, none, anew, a.check(t, c, 0), a.touch(t, c), a.info(t, c), a.destroy(t, c)} {
		if fault != want {
			t.Fatalf("%v, call %d: %v; want %v", c, k, fault, want)
		}
	}
}

// left holds how many draws are left against a number that is written out.
func (a pair) left(t *testing.T, want int) {
	t.Helper()
	if got := a.o.Left(); got != want {
		t.Fatalf("%d draws are left; want %d", got, want)
	}
}

// P23.1, P23.2, P23.3: the chapter's example.
func TestExample(t *testing.T) {
	x := Of(3, oracle.Of(tape.Of([]uint64{5, 8})))
	c, e := x.Create(7)
	if want := (api.Cap{Port: 3, Rights: api.Owner, Check: 5}); c != want || e != nil {
		t.Fatal(c, e)
	}
	r := c
	r.Rights = 1
	if k, e := x.Check(r, 0); k != 0 || !errors.Is(e, api.ErrCapability) {
		t.Error(k, e)
	}
	r.Check = 8
	if k, e := x.Check(r, 1); k != 0 || e != nil {
		t.Error("8 is not drawn:", k, e)
	}
	if n, e := x.Revoke(c); n != (api.Cap{}) || !errors.Is(e, api.ErrTape) {
		t.Error(n, e)
	}
	if k, e := x.Check(c, api.Owner); k != 0 || e != nil {
		t.Error("the secret did not stay:", k, e)
	}
}

// P23.1: an object that nobody touches lives 24 rounds.
func TestLife(t *testing.T) {
	if Life != 24 {
		t.Error(Life)
	}
}

// P23.1: of a nil oracle, and of one at its end, a table is empty and has no draws; so has a zero one.
func TestNoDraws(t *testing.T) {
	for _, port := range ports {
		for _, x := range []*Table{Of(port, nil), Of(port, oracle.Of(nil)), Of(port, oracle.Of(tape.Of(nil))), Of(port, &oracle.Oracle{}), {}} {
			for range 2 {
				if c, e := x.Create(5); c != (api.Cap{}) || !errors.Is(e, api.ErrTape) {
					t.Error(c, e)
				}
				for _, c := range []api.Cap{{}, {Port: port}, {Port: port, Rights: 255}, {Port: port, Rights: 1}, {Port: port, Object: math.MaxUint32, Rights: 255, Check: math.MaxUint64}} {
					empty(t, x, c)
				}
				if gone := x.Age(); len(gone) != 0 || x.Len() != 0 {
					t.Error(gone, x.Len())
				}
			}
		}
	}
}

// empty has a table without objects refuse a capability.
func empty(t *testing.T, x *Table, c api.Cap) {
	t.Helper()
	k, e1 := x.Check(c, 0)
	r, e2 := x.Restrict(c, 255)
	n, e3 := x.Revoke(c)
	d, v, e4 := x.Destroy(c)
	e5 := x.Touch(c)
	p, l, e6 := x.Info(c)
	if k != 0 || r != (api.Cap{}) || n != r || d != 0 || v != 0 || p != 0 || l != 0 {
		t.Error(k, r, n, d, v, p, l)
	}
	for _, e := range []error{e1, e2, e3, e4, e5, e6} {
		if !tells(e, api.ErrCapability) {
			t.Error(c, e)
		}
	}
	if v, ok := x.Value(int(c.Object)); v != 0 || ok {
		t.Error(v, ok)
	}
}

// P23.1, P23.2: the capability of a new object, by hand: each port as it is, the numbers from 0 on, the draws in order and cut; its value.
func TestCreate(t *testing.T) {
	for _, port := range ports {
		for _, value := range values {
			a := over(port, 0, 1, 1<<48-1, 1<<48, math.MaxUint64, 1)
			for k, secret := range []uint64{0, 1, 1<<48 - 1, 0, 1<<48 - 1, 1} {
				want := api.Cap{Port: port, Object: uint32(k), Rights: 255, Check: secret}
				if c, _ := a.create(t, value+k); c != want {
					t.Fatalf("%v; want %v", c, want)
				}
				if got, ok := a.x.Value(k); got != value+k || !ok {
					t.Fatal(got, ok)
				}
				if e, l, err := a.x.Info(want); e != 0 || l != 24 || err != nil {
					t.Fatal(e, l, err)
				}
				a.left(t, 5-k)
			}
			if _, fault := a.create(t, value); fault != api.ErrTape {
				t.Fatal(fault)
			}
		}
	}
}

// P23.1: the 64th object is made, one more is a zero capability and ErrFull, and no draw is taken; without a draw left it is ErrFull, too.
func TestFull(t *testing.T) {
	for _, left := range []int{0, 1, 5} {
		a := fill(t, 63, left+1)
		if c, _ := a.create(t, -5); c.Object != 63 || c.Check != 64000 {
			t.Fatal(c)
		}
		for range 3 {
			c, e := a.x.Create(9)
			if c != (api.Cap{}) || !errors.Is(e, api.ErrFull) || a.x.Len() != 64 {
				t.Fatal(c, e, a.x.Len())
			}
			a.left(t, left)
			a.look(t, "a Create without room")
		}
		for k := range 64 {
			a.check(t, a.m.owner(k), 255)
		}
		a.destroy(t, a.m.owner(40))
		c, fault := a.create(t, 8)
		if left == 0 && fault != api.ErrTape || left > 0 && (c.Object != 40 || c.Check != 65000) {
			t.Fatal(c, fault)
		}
	}
}

// P23.1: without a draw Create is ErrTape, however many objects there are, and nothing changes.
func TestCreateNoDraw(t *testing.T) {
	for _, many := range []int{0, 1, 2, 31, 63} {
		a := fill(t, many, 0)
		for range 3 {
			for _, value := range values {
				if _, fault := a.create(t, value); fault != api.ErrTape {
					t.Fatal(fault)
				}
			}
		}
	}
}

// P23.1: the lowest number that none has is given, behind one that was destroyed, wherever it stood; the next one is behind all.
func TestLowestDestroyed(t *testing.T) {
	for at := range 63 {
		a := fill(t, 63, 2)
		a.destroy(t, a.m.owner(at))
		if c, _ := a.create(t, 7); c.Object != uint32(at) || c.Check != 64000 {
			t.Fatal(at, c)
		}
		if c, _ := a.create(t, 8); c.Object != 63 {
			t.Fatal(at, c)
		}
	}
}

// P23.1, P23.4: the lowest number that none has is given, behind one that grew old.
func TestLowestOld(t *testing.T) {
	for at := 1; at < 63; at++ {
		a := fill(t, 63, 2)
		for range 23 {
			a.x.Age()
			a.m.age()
		}
		for k := range 63 {
			if k != at {
				a.touch(t, a.m.owner(k))
			}
		}
		if a.age(t) != 1 {
			t.Fatal(at)
		}
		if c, _ := a.create(t, 7); c.Object != uint32(at) || c.Check != 64000 {
			t.Fatal(at, c)
		}
		if c, _ := a.create(t, 8); c.Object != 63 {
			t.Fatal(at, c)
		}
	}
}

// P23.1: of several numbers that are free the lowest ones are given, rising, in whatever order they became free.
func TestLowestOfSeveral(t *testing.T) {
	a := fill(t, 10, 8)
	for _, k := range []int{7, 2, 9, 0, 4} {
		a.destroy(t, a.m.owner(k))
	}
	for _, k := range []uint32{0, 2, 4, 7, 9, 10} {
		if c, _ := a.create(t, 7); c.Object != k {
			t.Fatal(c, k)
		}
	}
}

// P23.1 to P23.3: which draws are taken, by hand: how many are left behind each call.
func TestDrawsTaken(t *testing.T) {
	a := over(3, draws(20)...)
	c, _ := a.create(t, 1)
	d, _ := a.create(t, 2)
	bad := func(c api.Cap, rights uint8, check uint64) api.Cap {
		c.Rights, c.Check = rights, check
		return c
	}
	other, away := c, c
	other.Port, away.Object = 4, 2
	for k, step := range []struct {
		do   func()
		left int
	}{
		{func() {}, 18},
		{func() { a.check(t, c, 255) }, 18},
		{func() { a.check(t, bad(c, 255, 7), 255) }, 18},
		{func() { a.check(t, bad(c, 1, 7), 1) }, 17},
		{func() { a.check(t, bad(c, 1, 7), 2) }, 17},
		{func() { a.check(t, bad(c, 1, 3000), 1) }, 17},
		{func() { a.check(t, bad(d, 1, 3000), 1) }, 16},
		{func() { a.check(t, bad(c, 0, 7), 0) }, 15},
		{func() { a.check(t, bad(other, 2, 7), 0) }, 15},
		{func() { a.check(t, bad(away, 2, 7), 0) }, 15},
		{func() { a.touch(t, bad(other, 2, 7)) }, 15},
		{func() { a.info(t, bad(away, 2, 7)) }, 15},
		{func() { a.revoke(t, bad(away, 255, 7)) }, 15},
		{func() { a.revoke(t, bad(c, 255, 7)) }, 15},
		{func() { a.revoke(t, bad(c, 2, 7)) }, 14},
		{func() { a.revoke(t, bad(c, 2, 6000)) }, 14},
		{func() { a.destroy(t, bad(c, 4, 7)) }, 13},
		{func() { a.touch(t, bad(c, 5, 7)) }, 12},
		{func() { a.info(t, bad(c, 6, 7)) }, 11},
		{func() { a.restrict(t, bad(c, 7, 7), 3) }, 10},
		{func() { a.restrict(t, c, 255) }, 10},
		{func() { a.restrict(t, c, 7) }, 10},
		{func() { a.restrict(t, c, 8) }, 9},
		{func() { a.restrict(t, bad(c, 8, 12000), 1) }, 9},
		{func() { a.restrict(t, bad(c, 8, 12000), 255) }, 9},
		{func() { a.revoke(t, c) }, 8},
		{func() { a.revoke(t, c) }, 8},
		{func() { a.check(t, bad(c, 1, 3000), 1) }, 7},
		{func() { a.age(t) }, 7},
		{func() { a.destroy(t, d) }, 7},
		{func() { a.check(t, bad(d, 16, 7), 0) }, 7},
		{func() { a.create(t, 3) }, 6},
		{func() { a.check(t, bad(d, 1, 4000), 0) }, 5},
	} {
		step.do()
		if got := a.o.Left(); got != step.left {
			t.Fatalf("step %d: %d left; want %d", k, got, step.left)
		}
	}
}

// P23.2: all rights with all needs: taken, if and only if all rights of need are there.
func TestRightsAndNeeds(t *testing.T) {
	a := fill(t, 2, 255)
	for rights := range 256 {
		c, e := a.x.Restrict(a.m.owner(1), uint8(rights))
		if e != nil || int(c.Rights) != rights || c.Object != 1 || c.Port != 3 {
			t.Fatal(rights, c, e)
		}
		for need := range 256 {
			want, number := api.Errno(0), 1
			if rights|need != rights {
				want, number = api.ErrRights, 0
			}
			if k, e := a.x.Check(c, uint8(need)); k != number || !tells(e, want) {
				t.Fatalf("rights %d, need %d: %d, %v; want %v", rights, need, k, e, want)
			}
		}
	}
	a.left(t, 0)
}

// P23.2: a capability of another port is refused, also where they are alike in their last bits, and whatever else it has.
func TestPort(t *testing.T) {
	for _, port := range ports {
		a := over(port, 5, 6, 7)
		c, _ := a.create(t, 4)
		r, _ := a.restrict(t, c, api.Read)
		for _, other := range append(ports, port+1, port-1, port^1<<48, port^1<<63, port^1<<32) {
			if other == port {
				continue
			}
			for _, x := range []api.Cap{c, r, {Rights: 9, Check: 7}, {Object: 1, Rights: 255}} {
				x.Port = other
				a.refused(t, x, api.ErrCapability)
				a.check(t, x, 255)
			}
		}
		a.left(t, 1)
		if a.check(t, c, 255) != 0 || a.check(t, r, 1) != 0 {
			t.Fatal("its own port's is refused")
		}
	}
}

// P23.2: a capability of a number that no object has is refused, also where the numbers are alike in their last bits, and no draw is taken.
func TestNumber(t *testing.T) {
	for _, many := range []int{1, 2, 63, 64} {
		a := fill(t, many, 3)
		for _, k := range []uint32{64, 65, 127, 128, 255, 256, 257, 1 << 16, 1<<24 - 1, 1 << 24, 1 << 31, 1<<31 + 1, math.MaxInt32, math.MaxUint32 - 63, math.MaxUint32 - 1, math.MaxUint32, uint32(many)} {
			for _, c := range []api.Cap{a.m.owner(0), {Port: 3, Rights: 1, Check: 7}, {Port: 3}} {
				c.Object = k
				a.refused(t, c, api.ErrCapability)
				a.check(t, c, 255)
			}
		}
		a.left(t, 3)
	}
}

// P23.2: Value of each object, and 0 and false of every number that none has.
func TestValue(t *testing.T) {
	for _, many := range []int{0, 1, 2, 63, 64} {
		a := fill(t, many, 0)
		for _, k := range append(nowhere, many) {
			if v, ok := a.x.Value(k); v != 0 || ok {
				t.Errorf("%d objects, Value(%d): %d, %v", many, k, v, ok)
			}
		}
		a.look(t, "Value")
	}
	a := fill(t, 3, 0)
	a.destroy(t, a.m.owner(1))
	if v, ok := a.x.Value(1); v != 0 || ok {
		t.Error(v, ok)
	}
}

// P23.2: a check with any bit turned, also ahead of a word's, is refused; so is one of another object, and one that is 0.
func TestOtherCheck(t *testing.T) {
	a := fill(t, 3, 3)
	c := a.m.owner(1)
	r, _ := a.restrict(t, c, 9)
	none, _ := a.restrict(t, c, 0)
	for _, good := range []api.Cap{c, r, none} {
		for bit := range 64 {
			bad := good
			bad.Check ^= 1 << bit
			a.refused(t, bad, api.ErrCapability)
			if k, e := a.x.Check(bad, 255); k != 0 || !tells(e, api.ErrCapability) {
				t.Fatal(k, e)
			}
		}
		for _, check := range []uint64{0, a.m.secret(0), a.m.secret(2), math.MaxUint64} {
			bad := good
			bad.Check = check
			a.refused(t, bad, api.ErrCapability)
		}
		if a.check(t, good, good.Rights) != 0 {
			t.Fatal(good)
		}
	}
	a.left(t, 1)
}

// P23.2: a capability with any other rights than its check is for is refused, whether these are more or fewer.
func TestOtherRights(t *testing.T) {
	a := fill(t, 2, 256)
	r, _ := a.restrict(t, a.m.owner(1), 9)
	for _, good := range []api.Cap{a.m.owner(1), r} {
		for rights := range 256 {
			bad := good
			bad.Rights = uint8(rights)
			if bad == good {
				continue
			}
			if k, e := a.x.Check(bad, 0); k != 0 || !tells(e, api.ErrCapability) {
				t.Fatal(bad, k, e)
			}
		}
	}
	a.left(t, 1)
}

// P23.2: a capability of another object of the same rights is refused at this one, and the other way round.
func TestOtherObject(t *testing.T) {
	a := fill(t, 4, 8)
	for k := range 4 {
		c := a.m.owner(k)
		r, _ := a.restrict(t, c, 9)
		for other := range 4 {
			if other == k {
				continue
			}
			x, y := c, r
			x.Object, y.Object = uint32(other), uint32(other)
			a.refused(t, x, api.ErrCapability)
			a.refused(t, y, api.ErrCapability)
		}
	}
	a.left(t, 4)
}

// W4: of several things that are wrong the first is told: port, number, no draw, check, rights.
func TestFirstWrong(t *testing.T) {
	a := fill(t, 2, 1)
	r, _ := a.restrict(t, a.m.owner(1), api.Read)
	a.left(t, 0)
	for _, c := range []struct {
		c    api.Cap
		need uint8
		want api.Errno
	}{
		{api.Cap{Port: 4, Object: 9, Rights: 2, Check: 5}, 255, api.ErrCapability},
		{api.Cap{Port: 4, Object: 1, Rights: 2, Check: 5}, 255, api.ErrCapability},
		{api.Cap{Port: 3, Object: 9, Rights: 2, Check: 5}, 255, api.ErrCapability},
		{api.Cap{Port: 3, Object: 1, Rights: 2, Check: 5}, 255, api.ErrTape},
		{api.Cap{Port: 3, Object: 1, Rights: 2, Check: 0}, 0, api.ErrTape},
		{api.Cap{Port: 3, Object: 1, Rights: 1, Check: 5}, 255, api.ErrCapability},
		{api.Cap{Port: 3, Object: 1, Rights: 255, Check: 5}, 255, api.ErrCapability},
		{r, 255, api.ErrRights},
		{r, 2, api.ErrRights},
		{r, 3, api.ErrRights},
		{r, 1, 0},
		{r, 0, 0},
	} {
		if got := a.check(t, c.c, c.need); got != c.want {
			t.Errorf("%v, %d: %v; want %v", c.c, c.need, got, c.want)
		}
	}
}

// P23.2, P23.3: a check that cannot be told, since no draw is left, is its error in every call, and nothing changes.
func TestNoDrawForCheck(t *testing.T) {
	a := fill(t, 3, 1)
	r, _ := a.restrict(t, a.m.owner(1), api.Read|api.Delete)
	a.age(t)
	for _, rights := range []uint8{0, 1, 2, 8, 254} {
		for _, check := range []uint64{0, r.Check, a.m.secret(1)} {
			c := api.Cap{Port: 3, Object: 1, Rights: rights, Check: check}
			for range 2 {
				a.refused(t, c, api.ErrTape)
			}
		}
	}
	if a.check(t, r, 9) != 0 || a.touch(t, r) != 0 || a.info(t, r) != 0 || a.destroy(t, r) != 0 {
		t.Fatal("what was told ahead is refused")
	}
}

// P23.3: all rights with all masks: the rights that are in both, with the check of these, told the same each time.
func TestRestrict(t *testing.T) {
	a := fill(t, 2, 255)
	var all [256]api.Cap
	for rights := range all {
		r, e := a.x.Restrict(a.m.owner(1), uint8(rights))
		if e != nil {
			t.Fatal(e)
		}
		all[rights] = r
	}
	if all[255] != a.m.owner(1) || all[0].Check != 3000 || all[254].Check != 257000 {
		t.Fatal(all[255], all[0], all[254])
	}
	a.left(t, 0)
	for rights := range all {
		for mask := range all {
			if r, e := a.x.Restrict(all[rights], uint8(mask)); r != all[rights&mask] || e != nil {
				t.Fatalf("rights %d, mask %d: %v, %v; want %v", rights, mask, r, e, all[rights&mask])
			}
		}
	}
}

// P23.3: a capability that was restricted twice opens by what is in both masks alone; Owner as a mask of one that is restricted gives no right.
func TestRestrictTwice(t *testing.T) {
	a := fill(t, 3, 6)
	once, _ := a.restrict(t, a.m.owner(2), api.Read|api.Write|api.Delete)
	twice, _ := a.restrict(t, once, api.Write|api.Delete|api.Revoke)
	if want := (api.Cap{Port: 3, Object: 2, Rights: api.Write | api.Delete, Check: 5000}); twice != want {
		t.Fatal(twice)
	}
	back, _ := a.restrict(t, twice, api.Owner)
	if back != twice {
		t.Fatal(back)
	}
	none, _ := a.restrict(t, twice, api.Read|api.Create)
	if none.Rights != 0 || none.Check != 6000 {
		t.Fatal(none)
	}
	for need, want := range map[uint8]api.Errno{0: 0, api.Write: 0, api.Delete: 0, 10: 0, api.Read: api.ErrRights, api.Owner: api.ErrRights} {
		if got := a.check(t, twice, need); got != want {
			t.Error(need, got)
		}
	}
	if a.check(t, none, 0) != 0 || a.check(t, none, api.Read) != api.ErrRights {
		t.Error("without rights it opens, or cannot be asked for")
	}
	if a.touch(t, none) != 0 || a.info(t, none) != 0 || a.destroy(t, none) != api.ErrRights {
		t.Error("need 0 asks for rights")
	}
	if a.destroy(t, twice) != 0 {
		t.Error("Delete does not destroy")
	}
}

// P23.3: no draw for the check of what is asked for: a zero capability and ErrTape; what was asked for ahead is told still.
func TestRestrictNoDraw(t *testing.T) {
	a := fill(t, 2, 1)
	c := a.m.owner(1)
	r, _ := a.restrict(t, c, 7)
	for _, from := range []api.Cap{c, r} {
		for _, mask := range []uint8{0, 1, 6, 8} {
			for range 2 {
				if x, fault := a.restrict(t, from, mask); x != (api.Cap{}) || fault != api.ErrTape {
					t.Fatal(x, fault)
				}
			}
		}
		if x, fault := a.restrict(t, from, 7); x != r || fault != 0 {
			t.Fatal(x, fault)
		}
	}
	if x, fault := a.restrict(t, c, 255); x != c || fault != 0 {
		t.Fatal(x, fault)
	}
}

// P23.3: a restrict whose capability's check takes the last draw, and is good by a guess, has none for what it asks for.
func TestRestrictLastDraw(t *testing.T) {
	a := over(3, 5, 8, 9)
	a.create(t, 1)
	guess := api.Cap{Port: 3, Rights: 3, Check: 8}
	if r, fault := a.restrict(t, guess, 1); r.Check != 9 || r.Rights != 1 || fault != 0 {
		t.Fatal(r, fault)
	}
	a = over(3, 5, 8)
	a.create(t, 1)
	if r, fault := a.restrict(t, guess, 1); r != (api.Cap{}) || fault != api.ErrTape {
		t.Fatal(r, fault)
	}
	if a.check(t, guess, 3) != 0 {
		t.Fatal("the oracle's answer did not stay")
	}
}

// P23.3: Revoke draws the secret anew, the epoch is one more; value, number and rounds stay, and nothing of an earlier epoch is taken.
func TestRevoke(t *testing.T) {
	a := fill(t, 3, 30)
	a.age(t)
	a.age(t)
	var old []api.Cap
	c := a.m.owner(1)
	for epoch := range 8 {
		r, _ := a.restrict(t, c, api.Read|api.Delete)
		old = append(old, c, r)
		left := a.o.Left()
		n, fault := a.revoke(t, c)
		if fault != 0 || n.Rights != 255 || n.Object != 1 || n.Check == c.Check {
			t.Fatal(n, fault)
		}
		a.left(t, left-1)
		if e, l, err := a.x.Info(n); e != epoch+1 || l != 22 || err != nil {
			t.Fatal(e, l, err)
		}
		if v, ok := a.x.Value(1); v != 101 || !ok {
			t.Fatal(v, ok)
		}
		for _, o := range old {
			a.refused(t, o, api.ErrCapability)
			a.check(t, o, 255)
		}
		c = n
	}
	if a.check(t, a.m.owner(0), 255) != 0 || a.check(t, a.m.owner(2), 255) != 0 {
		t.Fatal("others are revoked, too")
	}
}

// P23.3: a secret that is drawn anew as it was leaves the capabilities of the earlier epoch good: they are guessed.
func TestRevokeAlike(t *testing.T) {
	a := over(3, 5, 8, 5)
	c, _ := a.create(t, 1)
	r, _ := a.restrict(t, c, 1)
	n, fault := a.revoke(t, c)
	if n != c || fault != 0 {
		t.Fatal(n, fault)
	}
	if a.check(t, r, 1) != 0 {
		t.Fatal(r)
	}
	if e, _, _ := a.x.Info(c); e != 1 {
		t.Fatal(e)
	}
}

// P23.3: Revoke by a capability that is not Owner's is ErrRights, behind a good check alone, and nothing changes.
func TestRevokeRights(t *testing.T) {
	a := fill(t, 2, 257)
	for rights := range 255 {
		r, e := a.x.Restrict(a.m.owner(1), uint8(rights))
		if e != nil {
			t.Fatal(e)
		}
		left := a.o.Left()
		if n, e := a.x.Revoke(r); n != (api.Cap{}) || !tells(e, api.ErrRights) {
			t.Fatal(rights, n, e)
		}
		r.Check++
		if n, e := a.x.Revoke(r); n != (api.Cap{}) || !tells(e, api.ErrCapability) {
			t.Fatal(rights, n, e)
		}
		a.left(t, left)
		if epoch, _, e := a.x.Info(a.m.owner(1)); epoch != 0 || e != nil {
			t.Fatal(rights, epoch, e)
		}
	}
}

// P23.3: Revoke with no draw left is ErrTape, and secret and epoch stay.
func TestRevokeNoDraw(t *testing.T) {
	a := fill(t, 3, 2)
	c, _ := a.revoke(t, a.m.owner(1))
	r, _ := a.restrict(t, c, 9)
	for range 3 {
		if n, fault := a.revoke(t, c); n != (api.Cap{}) || fault != api.ErrTape {
			t.Fatal(n, fault)
		}
		if epoch, _, e := a.x.Info(c); epoch != 1 || e != nil {
			t.Fatal(epoch, e)
		}
		if a.check(t, r, 9) != 0 {
			t.Fatal(r)
		}
	}
	if _, fault := a.revoke(t, r); fault != api.ErrRights {
		t.Fatal(fault)
	}
}

// P23.3: Destroy needs Delete, and no other right; without it ErrRights, and the object stays.
func TestDestroyRights(t *testing.T) {
	for rights := range 256 {
		a := fill(t, 3, 1)
		r, _ := a.restrict(t, a.m.owner(1), uint8(rights))
		k, v, e := a.x.Destroy(r)
		if rights&8 == 0 {
			if k != 0 || v != 0 || !tells(e, api.ErrRights) {
				t.Fatal(rights, k, v, e)
			}
			a.look(t, "a Destroy that was refused")
			continue
		}
		if k != 1 || v != 101 || e != nil || a.x.Len() != 2 {
			t.Fatal(rights, k, v, e)
		}
		if v, ok := a.x.Value(1); v != 0 || ok {
			t.Fatal(v, ok)
		}
	}
}

// P23.3: Destroy tells the number and what the object stood for, of each number, also of 0; the others stay.
func TestDestroy(t *testing.T) {
	for at := range 64 {
		a := fill(t, 64, 0)
		c := a.m.owner(at)
		if a.destroy(t, c) != 0 {
			t.Fatal(at)
		}
		a.refused(t, c, api.ErrCapability)
		for k := range 64 {
			if k != at && a.check(t, a.m.owner(k), 255) != 0 {
				t.Fatal(at, k)
			}
		}
	}
	for _, value := range values {
		a := over(3, 5)
		c, _ := a.create(t, value)
		if k, v, e := a.x.Destroy(c); k != 0 || v != value || e != nil || a.x.Len() != 0 {
			t.Fatal(k, v, e)
		}
	}
}

// P23.1, P23.3: the next object of a number has nothing of the one ahead: value, epoch and rounds are its own, and the elder capabilities are refused.
func TestNextOfNumber(t *testing.T) {
	a := fill(t, 3, 12)
	c, _ := a.revoke(t, a.m.owner(1))
	r, _ := a.restrict(t, c, api.Read|api.Delete)
	for range 5 {
		a.age(t)
	}
	a.destroy(t, c)
	n, _ := a.create(t, -9)
	if n.Object != 1 || n.Check != 6000 {
		t.Fatal(n)
	}
	if e, l, err := a.x.Info(n); e != 0 || l != 24 || err != nil {
		t.Fatal(e, l, err)
	}
	if v, ok := a.x.Value(1); v != -9 || !ok {
		t.Fatal(v, ok)
	}
	for _, old := range []api.Cap{c, r} {
		a.refused(t, old, api.ErrCapability)
	}
}

// P23.3: Touch needs no right, and has an object live 24 rounds on from then; it alone does, Check and Info and the others do not.
func TestTouch(t *testing.T) {
	for ages := range 24 {
		a := fill(t, 4, 3)
		r, _ := a.restrict(t, a.m.owner(2), 0)
		for range ages {
			a.age(t)
		}
		a.check(t, r, 0)
		a.info(t, r)
		a.restrict(t, a.m.owner(2), 1)
		for k := 1; k < 4; k++ {
			if _, l, e := a.x.Info(a.m.owner(k)); l != 24-ages || e != nil {
				t.Fatal(ages, k, l, e)
			}
		}
		if a.touch(t, r) != 0 {
			t.Fatal(ages)
		}
		for k, want := range []int{24, 24 - ages, 24, 24 - ages} {
			if _, l, e := a.x.Info(a.m.owner(k)); l != want || e != nil {
				t.Fatal(ages, k, l, e)
			}
		}
		n, _ := a.revoke(t, a.m.owner(1))
		if _, l, e := a.x.Info(n); l != 24-ages || e != nil {
			t.Fatal(ages, l, e)
		}
	}
}

// P23.3: a Touch that is refused does not have an object live on.
func TestTouchRefused(t *testing.T) {
	a := fill(t, 2, 1)
	a.age(t)
	bad := a.m.owner(1)
	bad.Check++
	other := a.m.owner(1)
	other.Port++
	for _, c := range []api.Cap{bad, other} {
		if a.touch(t, c) != api.ErrCapability {
			t.Fatal(c)
		}
	}
	for range 22 {
		a.age(t)
		a.touch(t, bad)
	}
	if a.age(t) != 1 {
		t.Fatal("it lives on")
	}
	if a.touch(t, api.Cap{Port: 3, Object: 1, Rights: 255, Check: 2000}) != api.ErrCapability {
		t.Fatal("it is no more")
	}
}

// P23.4: an object is at the 23rd Age behind when it was made, and is no more at the 24th; Info tells how many it lives on.
func TestAge(t *testing.T) {
	a := fill(t, 2, 0)
	c := a.m.owner(1)
	for n := 1; n <= 23; n++ {
		if gone := a.x.Age(); len(gone) != 0 || a.x.Len() != 2 {
			t.Fatal(n, gone, a.x.Len())
		}
		if e, l, err := a.x.Info(c); e != 0 || l != 24-n || err != nil {
			t.Fatal(n, e, l, err)
		}
	}
	if gone := a.x.Age(); !slices.Equal(gone, []int{101}) || a.x.Len() != 1 {
		t.Fatal(gone, a.x.Len())
	}
	if k, e := a.x.Check(c, 0); k != 0 || !tells(e, api.ErrCapability) {
		t.Fatal(k, e)
	}
	if v, ok := a.x.Value(1); v != 0 || ok {
		t.Fatal(v, ok)
	}
	for range 60 {
		if gone := a.x.Age(); len(gone) != 0 || a.x.Len() != 1 {
			t.Fatal(gone, a.x.Len())
		}
	}
}

// P23.4: an object that is touched at any round is no more at the 24th Age behind that, not ahead.
func TestAgeTouched(t *testing.T) {
	for ages := range 24 {
		a := fill(t, 2, 0)
		for range ages {
			a.age(t)
		}
		a.touch(t, a.m.owner(1))
		for n := 1; n <= 23; n++ {
			if a.age(t) != 0 {
				t.Fatal(ages, n)
			}
		}
		if a.age(t) != 1 {
			t.Fatal(ages)
		}
	}
}

// P23.4: the number 0 never grows old, also one that was made behind another one of that number; it is destroyed like others.
func TestAgeZero(t *testing.T) {
	a := fill(t, 1, 2)
	for range 2 {
		for range 100 {
			if a.age(t) != 0 {
				t.Fatal("it grew old")
			}
			if _, l, e := a.x.Info(a.m.owner(0)); l != 24 || e != nil {
				t.Fatal(l, e)
			}
		}
		if a.destroy(t, a.m.owner(0)) != 0 {
			t.Fatal("it stays")
		}
		a.create(t, 9)
	}
}

// P23.4: of several that end at once what they stood for is told by their numbers, rising, whenever they were made and whatever it is.
func TestAgeSeveral(t *testing.T) {
	a := fill(t, 6, 6)
	for _, k := range []int{5, 1, 3} {
		a.destroy(t, a.m.owner(k))
	}
	for _, value := range []int{math.MaxInt64, 0, math.MinInt64} {
		a.create(t, value)
	}
	for range 23 {
		a.age(t)
	}
	if gone := a.x.Age(); !slices.Equal(gone, []int{math.MaxInt64, 102, 0, 104, math.MinInt64}) || a.x.Len() != 1 {
		t.Fatal(gone, a.x.Len())
	}
	a = fill(t, 64, 0)
	for range 23 {
		a.age(t)
	}
	gone := a.x.Age()
	if len(gone) != 63 || a.x.Len() != 1 {
		t.Fatal(gone, a.x.Len())
	}
	for k, value := range gone {
		if value != 101+k {
			t.Fatal(gone)
		}
	}
}

// P23.4: objects that were made at several rounds end each in its own.
func TestAgeApart(t *testing.T) {
	a := fill(t, 1, 40)
	for round := range 40 {
		a.create(t, 200+round)
		gone := a.x.Age()
		a.m.age()
		var want []int
		if round >= 23 {
			want = []int{200 + round - 23}
		}
		if !slices.Equal(gone, want) {
			t.Fatal(round, gone)
		}
		a.look(t, "Age")
	}
}

// W6: what Age answers is new memory: writing into it, and behind it, is not seen; elder answers stay.
func TestAgeNew(t *testing.T) {
	a := fill(t, 5, 20)
	var held [][]int
	for round := range 4 {
		for range 23 {
			a.age(t)
		}
		gone, want := a.x.Age(), a.m.age()
		if !slices.Equal(gone, want) || len(gone) != 4 {
			t.Fatal(gone, want)
		}
		for k := range gone {
			gone[k] = -round
		}
		_ = append(gone, 77)
		held = append(held, gone)
		a.look(t, "writing into what Age answers")
		for k := range 4 {
			a.create(t, 300+k)
		}
	}
	for round, gone := range held {
		if !slices.Equal(gone, []int{-round, -round, -round, -round}) {
			t.Fatal(held)
		}
	}
}

// P23.4: Len counts what is there, between all calls that make and end objects.
func TestLen(t *testing.T) {
	a := over(3, draws(200)...)
	for k := range 64 {
		if a.x.Len() != k {
			t.Fatal(a.x.Len())
		}
		a.create(t, k)
	}
	for k := range 30 {
		a.destroy(t, a.m.owner(2*k))
		if a.x.Len() != 63-k {
			t.Fatal(a.x.Len())
		}
	}
	for range 24 {
		a.age(t)
	}
	if a.x.Len() != 0 {
		t.Fatal(a.x.Len())
	}
}

// P23.1, W2: two tables of one oracle have its draws and answers in common, nothing else; a copy has objects of its own.
func TestTwo(t *testing.T) {
	o := oracle.Of(tape.Of([]uint64{5, 5, 8, 9}))
	x, y := Of(3, o), Of(4, o)
	c, _ := x.Create(1)
	if y.Len() != 0 {
		t.Fatal("an object of the other one")
	}
	d, _ := y.Create(2)
	r, e := x.Restrict(c, 1)
	s, f := y.Restrict(d, 1)
	if r != (api.Cap{Port: 3, Rights: 1, Check: 8}) || s != (api.Cap{Port: 4, Rights: 1, Check: 8}) || e != nil || f != nil || o.Left() != 1 {
		t.Fatal(r, s, e, f)
	}
	if k, e := x.Check(s, 0); k != 0 || !tells(e, api.ErrCapability) {
		t.Fatal(k, e)
	}
	z := *x
	if k, v, e := z.Destroy(c); k != 0 || v != 1 || e != nil || x.Len() != 1 || z.Len() != 0 {
		t.Fatal(k, v, e)
	}
	if e := x.Touch(c); e != nil {
		t.Fatal(e)
	}
}

// P23.1 to P23.4: several objects that are made, checked, restricted, revoked, destroyed, touched, asked for and grow old, mixed, by hand.
func TestMixed(t *testing.T) {
	a := over(9, draws(30)...)
	root, _ := a.create(t, -1)
	pen, _ := a.create(t, 10)
	ink, _ := a.create(t, 20)
	reader, _ := a.restrict(t, pen, api.Read|api.Delete)
	looker, _ := a.restrict(t, reader, api.Read|api.Write)
	for range 20 {
		a.age(t)
	}
	if looker.Rights != api.Read || a.touch(t, looker) != 0 || a.info(t, ink) != 0 {
		t.Fatal(looker)
	}
	newer, _ := a.revoke(t, ink)
	if a.check(t, ink, 0) != api.ErrCapability || a.check(t, newer, 255) != 0 {
		t.Fatal(newer)
	}
	for range 4 {
		a.age(t)
	}
	if a.x.Len() != 2 || a.check(t, newer, 0) != api.ErrCapability || a.check(t, looker, 1) != 0 {
		t.Fatal("ink lives, or pen does not")
	}
	cup, _ := a.create(t, 30)
	if cup.Object != 2 || a.destroy(t, looker) != api.ErrRights || a.destroy(t, reader) != 0 {
		t.Fatal(cup)
	}
	box, _ := a.create(t, 40)
	if box.Object != 1 || a.check(t, reader, 0) != api.ErrCapability || a.check(t, pen, 0) != api.ErrCapability || a.check(t, root, 255) != 0 {
		t.Fatal(box)
	}
}

// steps is calls by the first and the last of the capabilities that were told ahead in a run; where there are none, by one that is refused or guessed.
func steps(t *testing.T) []func(a pair, told *[]api.Cap) {
	keep := func(told *[]api.Cap, c api.Cap, fault api.Errno) {
		if fault == 0 {
			*told = append(*told, c)
		}
	}
	first := func(told *[]api.Cap) api.Cap { return append(*told, api.Cap{Port: 3, Rights: 255, Check: 1000})[0] }
	last := func(told *[]api.Cap) api.Cap {
		return append([]api.Cap{{Port: 3, Rights: 1, Check: 1000}}, *told...)[len(*told)]
	}
	return []func(a pair, told *[]api.Cap){
		func(a pair, told *[]api.Cap) { c, fault := a.create(t, 50+len(*told)); keep(told, c, fault) },
		func(a pair, told *[]api.Cap) { c, fault := a.restrict(t, last(told), 9); keep(told, c, fault) },
		func(a pair, told *[]api.Cap) { c, fault := a.restrict(t, first(told), 3); keep(told, c, fault) },
		func(a pair, told *[]api.Cap) { c, fault := a.revoke(t, first(told)); keep(told, c, fault) },
		func(a pair, told *[]api.Cap) { c, fault := a.revoke(t, last(told)); keep(told, c, fault) },
		func(a pair, told *[]api.Cap) { a.destroy(t, last(told)) },
		func(a pair, told *[]api.Cap) { a.destroy(t, first(told)) },
		func(a pair, told *[]api.Cap) { a.touch(t, last(told)) },
		func(a pair, told *[]api.Cap) {
			for range 12 {
				a.age(t)
			}
		},
	}
}

// P23.1 to P23.4: each run of five of the steps from an empty table, with few draws, and with enough.
func TestRuns(t *testing.T) {
	all := steps(t)
	const length = 5
	runs := 1
	for range length {
		runs *= len(all)
	}
	for r := range runs {
		a := over(3, draws(2+r%5)...)
		var told []api.Cap
		for rest, k := r, 0; k < length; rest, k = rest/len(all), k+1 {
			all[rest%len(all)](a, &told)
		}
		for _, c := range told {
			a.check(t, c, c.Rights)
		}
	}
}

// strew is a source of numbers below n.
func strew(seed uint64) func(n int) int {
	state := seed + 23
	return func(n int) int {
		state = state*6364136223846793005 + 1442695040888963407
		return int(state>>33) % n
	}
}

// spoil turns something of a capability, or nothing.
func spoil(c api.Cap, draw func(n int) int) api.Cap {
	switch draw(14) {
	case 0:
		c.Port ^= 1 << draw(64)
	case 1:
		c.Object ^= 1 << draw(32)
	case 2:
		c.Rights ^= 1 << draw(8)
	case 3:
		c.Check ^= 1 << draw(64)
	case 4:
		c.Object = uint32(draw(8))
	}
	return c
}

// strewnTape is draws that are all unlike, or few words that come again and again, so that checks are guessed.
func strewnTape(draw func(n int) int) []uint64 {
	list := make([]uint64, 20+draw(200))
	few := draw(2) == 0
	for k := range list {
		list[k] = uint64(draw(1<<30))<<20 + uint64(k)
		if few {
			list[k] = uint64(draw(12)) + uint64(draw(2))<<48
		}
	}
	return list
}

// P23.1 to P23.4: long strewn runs of all calls, of few and of many objects, by capabilities that were told at any time, whole and spoilt.
func TestStrewn(t *testing.T) {
	var done [7]map[api.Errno]int
	for k := range done {
		done[k] = map[api.Errno]int{}
	}
	aged := 0
	for seed := range uint64(150) {
		draw := strew(seed)
		a := over(ports[draw(len(ports))], strewnTape(draw)...)
		told := []api.Cap{{}}
		makes, ages := 1+draw(6), draw(4)
		for range 300 {
			var c api.Cap
			var fault api.Errno
			at := spoil(told[max(draw(len(told)), draw(len(told)))], draw)
			call := draw(8 + makes + ages)
			switch {
			case call < 2:
				fault = a.check(t, at, uint8(draw(256)&draw(256)&draw(256)))
				call = 0
			case call < 6:
				calls := []func(){
					func() { c, fault = a.restrict(t, at, uint8(draw(256))) },
					func() { c, fault = a.revoke(t, at) },
					func() { fault = a.destroy(t, at) },
					func() { fault = a.touch(t, at) },
				}
				call--
				calls[call-1]()
			case call < 8:
				fault = a.info(t, at)
				call = 5
			case call < 8+makes:
				c, fault = a.create(t, draw(100)-50)
				call = 6
			default:
				aged += a.age(t)
				continue
			}
			done[call][fault]++
			if c != (api.Cap{}) {
				told = append(told, c)
			}
		}
	}
	for k, faults := range done {
		want := []api.Errno{0, api.ErrCapability, api.ErrTape, api.ErrRights}
		switch k {
		case 1, 4, 5: // need 0
			want = want[:3]
		case 6:
			want = []api.Errno{0, api.ErrTape, api.ErrFull}
		}
		for _, fault := range want {
			if faults[fault] < 20 {
				t.Errorf("call %d: %v came %d times alone", k, fault, faults[fault])
			}
		}
	}
	if aged < 100 {
		t.Errorf("%d grew old alone", aged)
	}
}
