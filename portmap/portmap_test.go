package portmap

import (
	"fmt"
	"math"
	"math/big"
	"testing"
)

// The edges of numbers that may be anything.
var (
	far   = []int{math.MinInt, math.MinInt + 1, -1 << 62, math.MinInt32 - 1, math.MinInt32, -17, -16, -2, -1, 0, 1, 2, 15, 16, 17, 255, 256, math.MaxInt32, math.MaxInt32 + 1, 1 << 32, 1<<32 + 1, 1 << 62, math.MaxInt - 1, math.MaxInt}
	ports = []uint64{0, 1, 2, 15, 16, 17, 255, 256, math.MaxInt32, 1 << 31, 1 << 32, 1<<32 + 1, 1<<48 - 1, 1 << 48, 1<<48 + 1, 1 << 63, 1<<63 + 1, math.MaxUint64 - 1, math.MaxUint64}
	ages  = []int{math.MinInt, math.MinInt + 1, -3, -1, 0, 1, 2, 3, 4, 16, 1 << 32, math.MaxInt - 1, math.MaxInt}
)

// record is what the model has of a port; its stamp is how many ports were learnt up to it.
type record struct{ node, at, stamp int }

// model has no order: it works out from stamps which port was learnt first, and counts ticks in great numbers.
type model struct {
	age  int
	of   map[uint64]record
	last int
}

func (m *model) learn(port uint64, node, now int) {
	if _, is := m.of[port]; !is && len(m.of) == 16 {
		first, least := uint64(0), m.last+1
		for p, r := range m.of {
			if r.stamp < least {
				first, least = p, r.stamp
			}
		}
		delete(m.of, first)
	}
	m.last++
	m.of[port] = record{node, now, m.last}
}

func (m *model) find(port uint64, now int) (int, bool) {
	r, is := m.of[port]
	age := m.age
	if age <= 0 {
		age = 1
	}
	behind := new(big.Int).Sub(big.NewInt(int64(now)), big.NewInt(int64(r.at)))
	if !is || behind.Sign() < 0 || behind.Cmp(big.NewInt(int64(age))) >= 0 {
		return 0, false
	}
	return r.node, true
}

func (m *model) gone(node int) {
	for p, r := range m.of {
		if r.node == node {
			delete(m.of, p)
		}
	}
}

// twin is a model of its own that remembers the same.
func (m *model) twin() *model {
	other := &model{age: m.age, of: map[uint64]record{}, last: m.last}
	for p, r := range m.of {
		other.of[p] = r
	}
	return other
}

// pair is a Map, the model of it, and the ports that were ever named.
type pair struct {
	x     *Map
	m     *model
	named map[uint64]int
}

func of(age int) pair {
	return pair{Of(age), &model{age: age, of: map[uint64]record{}}, map[uint64]int{}}
}

// near is the ticks at which it may turn out whether what was learnt at one is believed. Sums go round: some are far off then.
func near(at, age int) []int {
	return []int{at - 1, at, at + 1, at + age - 1, at + age, at + age + 1, at - age, math.MinInt, math.MaxInt, 0}
}

// same holds all that can be seen of the Map against the model.
func (a pair) same(t *testing.T, after string) {
	t.Helper()
	if got := a.x.Len(); got != len(a.m.of) {
		t.Fatalf("after %s: Len %d, want %d", after, got, len(a.m.of))
	}
	for port := range a.named {
		at := 0
		if r, is := a.m.of[port]; is {
			at = r.at
		}
		for _, now := range near(at, a.m.age) {
			a.find(t, port, now)
		}
	}
	if got := a.x.Len(); got != len(a.m.of) {
		t.Fatalf("after %s and Find: Len %d, want %d", after, got, len(a.m.of))
	}
}

func (a pair) find(t *testing.T, port uint64, now int) (int, bool) {
	t.Helper()
	want, is := a.m.find(port, now)
	got, ok := a.x.Find(port, now)
	if got != want || ok != is {
		t.Fatalf("age %d: Find(%d, %d): %d, %v; want %d, %v", a.m.age, port, now, got, ok, want, is)
	}
	return got, ok
}

func (a pair) learn(t *testing.T, port uint64, node, now int) {
	t.Helper()
	a.named[port] = 1
	a.m.learn(port, node, now)
	a.x.Learn(port, node, now)
	a.same(t, fmt.Sprintf("Learn(%d, %d, %d)", port, node, now))
}

func (a pair) forget(t *testing.T, port uint64) {
	t.Helper()
	a.named[port] = 1
	delete(a.m.of, port)
	a.x.Forget(port)
	a.same(t, fmt.Sprintf("Forget(%d)", port))
}

func (a pair) gone(t *testing.T, node int) {
	t.Helper()
	a.m.gone(node)
	a.x.Gone(node)
	a.same(t, fmt.Sprintf("Gone(%d)", node))
}

// is has a port be found at a node.
func is(t *testing.T, m *Map, port uint64, now, node int) {
	t.Helper()
	if got, ok := m.Find(port, now); !ok || got != node {
		t.Fatalf("Find(%d, %d): %d, %v; want %d", port, now, got, ok, node)
	}
}

// isnt has a port not be found.
func isnt(t *testing.T, m *Map, port uint64, now int) {
	t.Helper()
	if got, ok := m.Find(port, now); ok || got != 0 {
		t.Fatalf("Find(%d, %d): %d, %v; want none", port, now, got, ok)
	}
}

// many has so many be remembered.
func many(t *testing.T, m *Map, want int) {
	t.Helper()
	if got := m.Len(); got != want {
		t.Fatalf("Len %d, want %d", got, want)
	}
}

// row is a pair that has learnt the ports 100 to 99 + n, the one of 100 + k at node k, at the tick k.
func row(t *testing.T, n int) pair {
	t.Helper()
	a := of(1000)
	for k := range n {
		a.learn(t, uint64(100+k), k, k)
	}
	return a
}

// has has just these of the ports 100 to 199 be remembered.
func has(t *testing.T, m *Map, want ...uint64) {
	t.Helper()
	many(t, m, len(want))
	for port := uint64(100); port < 200; port++ {
		wanted := false
		for _, p := range want {
			wanted = wanted || p == port
		}
		if _, ok := m.Find(port, 500); ok != wanted {
			t.Fatalf("Find(%d, 500): %v; want %v", port, ok, want)
		}
	}
}

// span is the ports from one up to another.
func span(from, to uint64) []uint64 {
	var ps []uint64
	for p := from; p <= to; p++ {
		ps = append(ps, p)
	}
	return ps
}

// P18.2: the chapter's example.
func TestExample(t *testing.T) {
	m := Of(3)
	m.Learn(7, 1, 10)
	is(t, m, 7, 12, 1)
	isnt(t, m, 7, 13)
	isnt(t, m, 7, 9)
	many(t, m, 1)
}

// P18.1, P18.2: a Map of Of remembers nothing, whatever its age, tells so in each call, and can be used.
func TestEmpty(t *testing.T) {
	for _, age := range append(ages, far...) {
		a := of(age)
		many(t, a.x, 0)
		for _, port := range ports {
			for _, now := range far {
				isnt(t, a.x, port, now)
			}
			a.forget(t, port)
		}
		for _, node := range far {
			a.gone(t, node)
		}
		many(t, a.x, 0)
		a.learn(t, 7, 1, 10)
		is(t, a.x, 7, 10, 1)
		many(t, a.x, 1)
	}
}

// P18.1: ports are learnt, found, forgotten, and learnt anew at another node.
func TestOrdinary(t *testing.T) {
	a := of(5)
	a.learn(t, 7, 1, 10)
	a.learn(t, 8, 2, 11)
	a.learn(t, 9, 1, 12)
	is(t, a.x, 7, 12, 1)
	is(t, a.x, 8, 12, 2)
	is(t, a.x, 9, 12, 1)
	many(t, a.x, 3)
	a.forget(t, 8)
	isnt(t, a.x, 8, 12)
	is(t, a.x, 7, 12, 1)
	is(t, a.x, 9, 12, 1)
	many(t, a.x, 2)
	a.learn(t, 8, 3, 13)
	is(t, a.x, 8, 13, 3)
	many(t, a.x, 3)
	a.learn(t, 7, 4, 14)
	is(t, a.x, 7, 14, 4)
	is(t, a.x, 7, 18, 4)
	isnt(t, a.x, 7, 13)
	many(t, a.x, 3)
	a.learn(t, 7, 4, 15)
	isnt(t, a.x, 7, 14)
	is(t, a.x, 7, 19, 4)
	many(t, a.x, 3)
}

// P18.1: what is learnt anew takes the place of what was known, also when that was learnt later: the last Learn counts, not the greatest tick.
func TestAnew(t *testing.T) {
	for _, first := range far {
		for _, second := range far {
			a := of(10)
			a.learn(t, 7, 1, first)
			a.learn(t, 7, 2, second)
			many(t, a.x, 1)
			is(t, a.x, 7, second, 2)
		}
	}
}

// P18.1: Gone of a node that one, some, all and none of the ports are at.
func TestGone(t *testing.T) {
	at := []int{1, 2, 1, 3, 2, 1, 0, -1}
	for _, c := range []struct {
		node int
		stay []uint64
	}{
		{1, []uint64{101, 103, 104, 106, 107}},
		{2, []uint64{100, 102, 103, 105, 106, 107}},
		{3, []uint64{100, 101, 102, 104, 105, 106, 107}},
		{0, []uint64{100, 101, 102, 103, 104, 105, 107}},
		{-1, []uint64{100, 101, 102, 103, 104, 105, 106}},
		{4, span(100, 107)}, {-2, span(100, 107)}, {100, span(100, 107)}, {500, span(100, 107)}, {math.MinInt, span(100, 107)}, {math.MaxInt, span(100, 107)},
	} {
		a := of(1000)
		for k, node := range at {
			a.learn(t, uint64(100+k), node, 500)
		}
		for range 2 {
			a.gone(t, c.node)
			has(t, a.x, c.stay...)
		}
	}
	for _, n := range []int{1, 2, 15, 16} {
		a := of(1000)
		for k := range n {
			a.learn(t, uint64(100+k), 5, 500)
		}
		a.gone(t, 4)
		many(t, a.x, n)
		a.gone(t, 5)
		has(t, a.x)
		a.learn(t, 100, 5, 500)
		has(t, a.x, 100)
	}
}

// P18.1: Gone looks at where a port is now, not at where it was, nor at its number or tick.
func TestGoneNow(t *testing.T) {
	a := of(1000)
	a.learn(t, 100, 1, 500)
	a.learn(t, 100, 2, 500)
	a.gone(t, 1)
	has(t, a.x, 100)
	a.gone(t, 100)
	a.gone(t, 500)
	has(t, a.x, 100)
	a.gone(t, 2)
	has(t, a.x)
}

// P18.1: each of the edges of nodes is gone by itself alone, and is answered as it is.
func TestNodes(t *testing.T) {
	for skip := 0; skip+16 <= len(far); skip++ {
		nodes := far[skip : skip+16]
		for _, node := range nodes {
			a := of(1000)
			for k, other := range nodes {
				a.learn(t, uint64(100+k), other, 500)
			}
			a.gone(t, node)
			many(t, a.x, 15)
			for k, other := range nodes {
				if other == node {
					isnt(t, a.x, uint64(100+k), 500)
				} else {
					is(t, a.x, uint64(100+k), 500, other)
				}
			}
		}
	}
}

// P18.1: ports are told apart by all of their bits, and forgotten by themselves alone.
func TestPorts(t *testing.T) {
	for k, port := range ports {
		for l, other := range ports {
			a := of(3)
			a.learn(t, port, k, 10)
			if k == l {
				continue
			}
			isnt(t, a.x, other, 10)
			a.forget(t, other)
			is(t, a.x, port, 10, k)
			a.learn(t, other, l, 11)
			is(t, a.x, port, 11, k)
			is(t, a.x, other, 11, l)
			many(t, a.x, 2)
			a.forget(t, port)
			isnt(t, a.x, port, 11)
			is(t, a.x, other, 11, l)
			many(t, a.x, 1)
		}
	}
	for bit := range 64 {
		a := of(3)
		a.learn(t, 0, 1, 10)
		a.learn(t, 1<<bit, 2, 10)
		many(t, a.x, 2)
		is(t, a.x, 0, 10, 1)
		is(t, a.x, 1<<bit, 10, 2)
	}
}

// P18.1: a port that is forgotten, or whose node is gone, is not found at any tick; once more nothing changes.
func TestForgotten(t *testing.T) {
	for _, at := range far {
		a, b := of(math.MaxInt), of(math.MaxInt)
		a.learn(t, 7, 1, at)
		b.learn(t, 7, 1, at)
		for range 2 {
			a.forget(t, 7)
			b.gone(t, 1)
			many(t, a.x, 0)
			many(t, b.x, 0)
		}
		for _, now := range append(near(at, 3), far...) {
			isnt(t, a.x, 7, now)
			isnt(t, b.x, 7, now)
		}
	}
}

// P18.1: Forget of a port and Gone of a node of which nothing is remembered change nothing, not even which is forgotten next.
func TestNothingThere(t *testing.T) {
	for n := range 17 {
		a := row(t, n)
		for _, port := range []uint64{0, 99, uint64(100 + n), 150, math.MaxUint64} {
			a.forget(t, port)
			has(t, a.x, span(100, uint64(99+n))...)
		}
		for _, node := range []int{-1, n, 100, 500, math.MinInt, math.MaxInt} {
			a.gone(t, node)
			has(t, a.x, span(100, uint64(99+n))...)
		}
		for k := n; k < n+20; k++ {
			a.learn(t, uint64(100+k), k, k)
			has(t, a.x, span(uint64(max(100, 85+k)), uint64(100+k))...)
		}
	}
}

// P18.1: 15, 16 and 17 ports: the 17th drives the first one out, the 18th the second, and so on.
func TestSixteen(t *testing.T) {
	a := row(t, 15)
	has(t, a.x, span(100, 114)...)
	a.learn(t, 115, 15, 15)
	has(t, a.x, span(100, 115)...)
	a.learn(t, 116, 16, 16)
	has(t, a.x, span(101, 116)...)
	isnt(t, a.x, 100, 16)
	for k := 17; k < 80; k++ {
		a.learn(t, uint64(100+k), k, k)
		has(t, a.x, span(uint64(85+k), uint64(100+k))...)
	}
}

// P18.1: one that was driven out can be learnt anew, and drives the next one out.
func TestDrivenOut(t *testing.T) {
	a := row(t, 17)
	a.learn(t, 100, 50, 50)
	has(t, a.x, append(span(102, 116), 100)...)
	is(t, a.x, 100, 50, 50)
}

// P18.1: a port that is remembered already, each of the 16, drives no other one out, and counts as learnt last.
func TestAnewOfSixteen(t *testing.T) {
	for again := range uint64(16) {
		a := row(t, 16)
		a.learn(t, 100+again, 70, 70)
		has(t, a.x, span(100, 115)...)
		is(t, a.x, 100+again, 70, 70)
		// All others go ahead of it, in their order.
		left := append(append(span(100, 99+again), span(101+again, 115)...), 100+again)
		for k := range 16 {
			a.learn(t, uint64(120+k), 1, 80)
			left = left[1:]
			has(t, a.x, append(span(120, uint64(120+k)), left...)...)
		}
	}
}

// P18.1: which one was learnt first hangs on the calls alone, not on the ticks, nor on ports or nodes.
func TestFirstByCalls(t *testing.T) {
	for _, step := range []int{0, -1, -7, 7, 1 << 59, -1 << 59} {
		a := of(math.MaxInt)
		for k := range 40 {
			port := uint64(100 + k*7%40)
			now := step * k
			a.learn(t, port, 40-k, now)
			is(t, a.x, port, now, 40-k)
			if k >= 16 {
				out := uint64(100 + (k-16)*7%40)
				for _, tick := range near(step*(k-16), 3) {
					isnt(t, a.x, out, tick)
				}
				many(t, a.x, 16)
			}
		}
	}
}

// P18.1: Find does not make a port count as learnt anew, nor one that is too old as gone.
func TestFindKeepsOrder(t *testing.T) {
	a := row(t, 16)
	for range 3 {
		is(t, a.x, 100, 900, 0)
		isnt(t, a.x, 101, 5000)
	}
	a.learn(t, 116, 16, 16)
	has(t, a.x, span(101, 116)...)
	a.learn(t, 117, 17, 17)
	has(t, a.x, span(102, 117)...)
}

// P18.1: behind a Forget and a Gone of a full Map there is room again, for as many as went.
func TestRoomAgain(t *testing.T) {
	for out := range uint64(16) {
		a, b := row(t, 16), row(t, 16)
		a.forget(t, 100+out)
		b.gone(t, int(out))
		stay := append(span(100, 99+out), span(101+out, 115)...)
		for _, c := range []pair{a, b} {
			has(t, c.x, stay...)
			c.learn(t, 150, 1, 20)
			has(t, c.x, append(stay, 150)...)
			c.learn(t, 151, 1, 20)
			has(t, c.x, append(stay[1:], 150, 151)...)
		}
	}
	a := of(1000)
	for k := range 16 {
		a.learn(t, uint64(100+k), k%2, 500)
	}
	a.gone(t, 0)
	many(t, a.x, 8)
	for k := range 8 {
		a.learn(t, uint64(150+k), 3, 500)
		many(t, a.x, 9+k)
	}
	a.learn(t, 160, 3, 500)
	many(t, a.x, 16)
	isnt(t, a.x, 101, 500)
	is(t, a.x, 103, 500, 1)
}

// P18.2: found at the tick when it was learnt and up to the last below the age, not at the age and above, nor one tick ahead: for each age up to 12, and those below 1, which count as 1.
func TestAges(t *testing.T) {
	for age := -12; age <= 12; age++ {
		for _, at := range []int{-20, -5, -1, 0, 1, 5, 20} {
			m := Of(age)
			m.Learn(7, 3, at)
			good := age
			if age < 1 {
				good = 1
			}
			for now := at - 40; now <= at+40; now++ {
				if now >= at && now < at+good {
					is(t, m, 7, now, 3)
				} else {
					isnt(t, m, 7, now)
				}
				many(t, m, 1)
			}
		}
	}
}

// P18.2: what is too old stays remembered: Len counts it, a Find at an earlier tick has it, and it takes up room.
func TestTooOld(t *testing.T) {
	a := of(3)
	for k := range 16 {
		a.learn(t, uint64(100+k), k, 10)
	}
	for k := range 16 {
		isnt(t, a.x, uint64(100+k), 13)
		isnt(t, a.x, uint64(100+k), math.MaxInt)
		isnt(t, a.x, uint64(100+k), 9)
	}
	many(t, a.x, 16)
	for k := range 16 {
		is(t, a.x, uint64(100+k), 12, k)
	}
	a.learn(t, 120, 1, 1000)
	many(t, a.x, 16)
	isnt(t, a.x, 100, 12)
	is(t, a.x, 101, 12, 1)
	a.gone(t, 5)
	isnt(t, a.x, 105, 12)
	a.forget(t, 106)
	isnt(t, a.x, 106, 12)
	many(t, a.x, 14)
}

// P18.2: each tick of the edges at Learn, each at Find, for each age.
func TestTicks(t *testing.T) {
	for _, age := range append(ages, far...) {
		for _, at := range far {
			a := of(age)
			a.learn(t, 7, 1, at)
			for _, now := range append(near(at, age), far...) {
				a.find(t, 7, now)
			}
			is(t, a.x, 7, at, 1)
		}
	}
}

// P18.2: the same edges of ticks, said with what each of them tells: ticks are counted as they are, they do not go round.
func TestKnownTicks(t *testing.T) {
	const low, high = math.MinInt, math.MaxInt
	for _, c := range []struct {
		age, at, now int
		good         bool
	}{
		{3, low, low, true}, {3, low, low + 2, true}, {3, low, low + 3, false}, {3, low, 0, false}, {3, low, -1, false}, {3, low, high, false}, {3, low, high - 1, false},
		{3, high, high, true}, {3, high, high - 1, false}, {3, high, low, false}, {3, high, low + 1, false}, {3, high, low + 2, false}, {3, high, 0, false},
		{3, high - 2, high, true}, {3, high - 3, high, false}, {3, high - 1, low, false}, {3, low + 1, high, false},
		{1, low, low, true}, {1, low, low + 1, false}, {1, high, high, true}, {1, low, high, false}, {1, high, low, false},
		{0, low, high, false}, {-1, low, high, false}, {low, low, high, false}, {low, low, low, true}, {low, high, high, true},
		{high, low, high, false}, {high, low, -1, false}, {high, low, -2, true}, {high, low, 0, false}, {high, 0, high, false}, {high, 0, high - 1, true}, {high, 1, high, true}, {high, -1, high, false}, {high, -1, high - 1, false}, {high, -1, high - 2, true}, {high, high, low, false}, {high, high, high, true},
		{high - 1, 1, high, false}, {high - 1, 2, high, true}, {high, -1 << 62, 1<<62 - 2, true}, {high, -1 << 62, 1<<62 - 1, false}, {high, -1 << 62, 1 << 62, false},
		{5, -3, -3, true}, {5, -3, 1, true}, {5, -3, 2, false}, {5, -3, -4, false}, {5, 0, 4, true}, {5, 0, 5, false}, {5, 0, -1, false},
	} {
		m := Of(c.age)
		m.Learn(7, 1, c.at)
		if c.good {
			is(t, m, 7, c.now, 1)
		} else {
			isnt(t, m, 7, c.now)
		}
		many(t, m, 1)
	}
}

// P18.2: node 0 is found as such: true stands beside it, and false where nothing is.
func TestNodeZero(t *testing.T) {
	a := of(2)
	a.learn(t, 0, 0, 0)
	is(t, a.x, 0, 0, 0)
	is(t, a.x, 0, 1, 0)
	isnt(t, a.x, 0, 2)
	isnt(t, a.x, 1, 0)
	a.gone(t, 0)
	isnt(t, a.x, 0, 0)
	many(t, a.x, 0)
}

// P18.2: each port is as old as when it was learnt itself, whatever was learnt behind it.
func TestOwnAge(t *testing.T) {
	a := of(4)
	for k := range 16 {
		a.learn(t, uint64(k), k, 10*k)
	}
	for k := range 16 {
		for now := range 200 {
			if now >= 10*k && now < 10*k+4 {
				is(t, a.x, uint64(k), now, k)
			} else {
				isnt(t, a.x, uint64(k), now)
			}
		}
	}
}

// W2: two Maps do not know of each other, of one age or of several.
func TestTwo(t *testing.T) {
	a, b := of(3), of(5)
	a.learn(t, 7, 1, 10)
	isnt(t, b.x, 7, 10)
	b.learn(t, 7, 2, 10)
	is(t, a.x, 7, 10, 1)
	isnt(t, a.x, 7, 13)
	is(t, b.x, 7, 13, 2)
	b.forget(t, 7)
	is(t, a.x, 7, 10, 1)
	b.gone(t, 1)
	is(t, a.x, 7, 10, 1)
	if Of(3) == Of(3) {
		t.Error("two Maps are one")
	}
}

// W2: a copy of a Map is one of its own: each goes on with what was called of it.
func TestCopy(t *testing.T) {
	steps := []func(c pair){
		func(c pair) { c.learn(t, 150, 3, 30) },
		func(c pair) { c.learn(t, 151, 1, 31) },
		func(c pair) { c.learn(t, 100, 9, 32) },
		func(c pair) { c.learn(t, 102, 9, 33) },
		func(c pair) { c.forget(t, 100) },
		func(c pair) { c.forget(t, 101) },
		func(c pair) { c.gone(t, 0) },
		func(c pair) { c.gone(t, 3) },
	}
	for _, n := range []int{0, 1, 2, 3, 4, 7, 8, 9, 15, 16, 17} {
		for first := range steps {
			for second := range steps {
				a := row(t, n)
				twin := *a.x
				b := pair{&twin, a.m.twin(), a.named}
				steps[first](b)
				a.same(t, "a step of the copy")
				steps[second](a)
				b.same(t, "a step of the first")
				steps[second](b)
				a.same(t, "a second step of the copy")
			}
		}
	}
}

// strew is a source of numbers below n.
func strew(seed uint64) func(n int) int {
	state := seed + 18
	return func(n int) int {
		state = state*6364136223846793005 + 1442695040888963407
		return int(state>>33) % n
	}
}

// P18.1, P18.2: long strewn runs of all calls, with few ports and with many.
func TestStrewn(t *testing.T) {
	full := 0
	for seed := range uint64(60) {
		draw := strew(seed)
		a := of(draw(12) - 2)
		width, now := 4+draw(40), draw(20)-10
		for range 250 {
			port := uint64(draw(width))
			switch draw(12) {
			case 0:
				a.forget(t, port)
			case 1:
				if draw(3) == 0 {
					a.gone(t, draw(10)-1)
				}
			case 2:
				now += draw(4)
			case 3:
				now -= draw(3)
			default:
				a.learn(t, port, draw(8)-1, now)
			}
			a.find(t, uint64(draw(width)), now)
			a.find(t, uint64(draw(width)), now+draw(20)-10)
			if a.x.Len() == 16 {
				full++
			}
		}
	}
	if full < 1000 {
		t.Errorf("%d times full", full)
	}
}

// P18.1, P18.2: strewn runs over the edges of all numbers.
func TestStrewnEdges(t *testing.T) {
	for seed := range uint64(60) {
		draw := strew(seed)
		edge := func() int { return far[draw(len(far))] }
		a := of(ages[draw(len(ages))])
		for range 200 {
			port := ports[draw(len(ports))]
			switch draw(10) {
			case 0:
				a.forget(t, port)
			case 1:
				a.gone(t, edge())
			default:
				a.learn(t, port, edge(), edge())
			}
			a.find(t, ports[draw(len(ports))], edge())
		}
	}
}

// P18.1, P18.2: each run of four of eleven steps, from none, a few, 15 and 16 ports.
func TestRuns(t *testing.T) {
	steps := []func(c pair){
		func(c pair) { c.learn(t, 150, 1, 16) },
		func(c pair) { c.learn(t, 151, 2, 15) },
		func(c pair) { c.learn(t, 150, 2, 17) },
		func(c pair) { c.learn(t, 100, 5, 18) },
		func(c pair) { c.learn(t, 101, 1, 16) },
		func(c pair) { c.forget(t, 150) },
		func(c pair) { c.forget(t, 100) },
		func(c pair) { c.forget(t, 199) },
		func(c pair) { c.gone(t, 1) },
		func(c pair) { c.gone(t, 2) },
		func(c pair) { c.find(t, 150, 17) },
	}
	for _, n := range []int{0, 2, 15, 16} {
		start := row(t, n)
		for run := range 11 * 11 * 11 * 11 {
			twin := *start.x
			a := pair{&twin, start.m.twin(), map[uint64]int{100: 1, 101: 1, 102: 1, 115: 1, 150: 1, 151: 1}}
			for rest, k := run, 0; k < 4; rest, k = rest/11, k+1 {
				steps[rest%11](a)
			}
		}
	}
}
