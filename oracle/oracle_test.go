package oracle

import (
	"errors"
	"math"
	"slices"
	"testing"

	"sigillum/api"
	"sigillum/tape"
)

// model is an oracle that looks all its answers through by every question, over the list of a tape.
type model struct {
	list []uint64 // the draws that are left
	all  []Entry
}

func (m *model) known(f Function, in uint64) (uint64, bool) {
	for _, e := range m.all {
		if e.Of == f && e.In == in%(1<<48) {
			return e.Out, true
		}
	}
	return 0, false
}

func (m *model) draw() (uint64, bool) {
	if len(m.list) == 0 {
		return 0, false
	}
	v := m.list[0] % (1 << 48)
	m.list = m.list[1:]
	return v, true
}

func (m *model) ask(f Function, in uint64) (uint64, bool) {
	if v, ok := m.known(f, in); ok {
		return v, true
	}
	v, ok := m.draw()
	if ok {
		m.all = append(m.all, Entry{f, in % (1 << 48), v})
	}
	return v, ok
}

// query is what an oracle is asked.
type query struct {
	f  Function
	in uint64
}

// asked is some queries at and around the edges, of functions that are named and of others.
func asked() []query {
	var qs []query
	for _, f := range []Function{Put, Check, 2, -1, math.MaxInt, math.MinInt} {
		for _, in := range []uint64{0, 1, 2, 1<<47 + 1, 1<<48 - 1, 1 << 48, 1<<48 + 1, 1<<63 + 1, math.MaxUint64} {
			qs = append(qs, query{f, in})
		}
	}
	return qs
}

// see holds what an oracle tells against the model, twice: to be told changes nothing.
func see(t *testing.T, o *Oracle, m *model, qs []query) {
	t.Helper()
	for range 2 {
		if got, want := o.Left(), len(m.list); got != want {
			t.Fatalf("%v: Left %d, want %d", m.all, got, want)
		}
		if got := o.Entries(); !slices.Equal(got, m.all) {
			t.Fatalf("Entries %v, want %v", got, m.all)
		}
		for _, q := range qs {
			got, ok := o.Known(q.f, q.in)
			if want, given := m.known(q.f, q.in); got != want || ok != given {
				t.Fatalf("%v: Known(%d, %x): %x, %v, want %x, %v", m.all, q.f, q.in, got, ok, want, given)
			}
		}
	}
}

// same holds an answer with its error against the model's.
func same(t *testing.T, name string, got uint64, err error, want uint64, ok bool) {
	t.Helper()
	if ok && (got != want || err != nil) {
		t.Fatalf("%s: %x, %v, want %x", name, got, err, want)
	}
	if !ok && (got != 0 || !errors.Is(err, api.ErrTape) || api.Number(err) != api.ErrTape) {
		t.Fatalf("%s: %x, %v, want 0 and ErrTape", name, got, err)
	}
}

func ask(t *testing.T, o *Oracle, m *model, f Function, in uint64) {
	t.Helper()
	want, ok := m.ask(f, in)
	got, err := o.Ask(f, in)
	same(t, "Ask", got, err, want, ok)
}

func draw(t *testing.T, o *Oracle, m *model) {
	t.Helper()
	want, ok := m.draw()
	got, err := o.Draw()
	same(t, "Draw", got, err, want, ok)
}

// answers asks once, and holds the answer against one that is written out.
func answers(t *testing.T, o *Oracle, f Function, in, want uint64) {
	t.Helper()
	if v, err := o.Ask(f, in); v != want || err != nil {
		t.Errorf("Ask(%d, %x): %x, %v, want %x", f, in, v, err, want)
	}
}

// atEnd asks once, when no draw is left.
func atEnd(t *testing.T, o *Oracle, f Function, in uint64) {
	t.Helper()
	if v, err := o.Ask(f, in); v != 0 || !errors.Is(err, api.ErrTape) {
		t.Errorf("Ask(%d, %x): %x, %v, want 0 and ErrTape", f, in, v, err)
	}
}

// knows asks what is known, and holds it against what is written out.
func knows(t *testing.T, o *Oracle, f Function, in, want uint64, given bool) {
	t.Helper()
	if v, ok := o.Known(f, in); v != want || ok != given {
		t.Errorf("Known(%d, %x): %x, %v, want %x, %v", f, in, v, ok, want, given)
	}
}

// draws draws once, and holds the draw against one that is written out.
func draws(t *testing.T, o *Oracle, want uint64) {
	t.Helper()
	if v, err := o.Draw(); v != want || err != nil {
		t.Errorf("Draw: %x, %v, want %x", v, err, want)
	}
}

// leaves holds the number of draws that are left against one that is written out.
func leaves(t *testing.T, o *Oracle, want int) {
	t.Helper()
	if got := o.Left(); got != want {
		t.Errorf("Left %d, want %d", got, want)
	}
}

// enters holds the entries against those that are written out.
func enters(t *testing.T, o *Oracle, want ...Entry) {
	t.Helper()
	if got := o.Entries(); !slices.Equal(got, want) {
		t.Errorf("Entries %v, want %v", got, want)
	}
}

// P6.1: the chapter's example.
func TestExample(t *testing.T) {
	o := Of(tape.Of([]uint64{7, 9}))
	answers(t, o, Put, 1, 7)
	answers(t, o, Put, 1, 7)
	answers(t, o, Check, 1, 9)
	atEnd(t, o, Check, 2)
}

// P6.1: the functions that the chapter names have its numbers.
func TestFunctions(t *testing.T) {
	if Put != 0 || Check != 1 {
		t.Errorf("Put %d, Check %d", Put, Check)
	}
}

// P6.1, P6.2: an oracle without draws answers nothing, however often it is asked.
func TestNoDraws(t *testing.T) {
	drawn := tape.Of([]uint64{3})
	drawn.Draw()
	for name, o := range map[string]*Oracle{
		"nil tape":         Of(nil),
		"tape of nil":      Of(tape.Of(nil)),
		"tape of none":     Of(tape.Of([]uint64{})),
		"tape at its end":  Of(drawn),
		"tape without any": Of(&tape.Tape{}),
	} {
		t.Run(name, func(t *testing.T) {
			m := &model{}
			for range 3 {
				see(t, o, m, asked())
				draw(t, o, m)
				for _, q := range asked() {
					ask(t, o, m, q.f, q.in)
				}
			}
			see(t, o, m, asked())
		})
	}
}

// P6.1: of a tape of which some draws were taken ahead, those behind them are an oracle's.
func TestTakenAhead(t *testing.T) {
	list := []uint64{11, 12, 13, 14}
	for ahead := 0; ahead <= len(list); ahead++ {
		x := tape.Of(list)
		for range ahead {
			x.Draw()
		}
		o, m := Of(x), &model{list: list[ahead:]}
		see(t, o, m, asked())
		for k := range 5 {
			ask(t, o, m, Check, uint64(k))
			see(t, o, m, asked())
			if taken := min(ahead+k+1, len(list)); x.Taken() != taken {
				t.Errorf("%d ahead, %d asked: the tape has %d taken, want %d", ahead, k+1, x.Taken(), taken)
			}
		}
	}
}

// P6.1: an oracle's draws are the tape's: one that is taken there is taken here, and the other way round.
func TestTapesDraws(t *testing.T) {
	x := tape.Of([]uint64{21, 22, 23, 24, 25})
	o := Of(x)
	answers(t, o, Put, 1, 21)
	if v, err := x.Draw(); v != 22 || err != nil {
		t.Errorf("the tape's: %d, %v", v, err)
	}
	leaves(t, o, 3)
	answers(t, o, Put, 2, 23)
	draws(t, o, 24)
	if x.Taken() != 4 || x.Left() != 1 {
		t.Errorf("the tape has %d taken, %d left", x.Taken(), x.Left())
	}
	x.Draw()
	leaves(t, o, 0)
	atEnd(t, o, Put, 3)
	answers(t, o, Put, 1, 21)
	enters(t, o, Entry{Put, 1, 21}, Entry{Put, 2, 23})
}

// P6.1: two oracles of one tape share its draws, but no answers.
func TestTwoOfOneTape(t *testing.T) {
	x := tape.Of([]uint64{5, 6, 7})
	one, other := Of(x), Of(x)
	answers(t, one, Put, 1, 5)
	knows(t, other, Put, 1, 0, false)
	answers(t, other, Put, 1, 6)
	answers(t, one, Put, 1, 5)
	draws(t, one, 7)
	leaves(t, other, 0)
	atEnd(t, other, Put, 2)
	answers(t, other, Put, 1, 6)
	enters(t, one, Entry{Put, 1, 5})
	enters(t, other, Entry{Put, 1, 6})
}

// P6.1: an oracle begins without answers, also behind another of a like tape.
func TestTwoTapes(t *testing.T) {
	list := []uint64{5, 6}
	one, other := Of(tape.Of(list)), Of(tape.Of(list))
	answers(t, one, Check, 1, 5)
	answers(t, one, Check, 2, 6)
	leaves(t, other, 2)
	enters(t, other)
	knows(t, other, Check, 1, 0, false)
	answers(t, other, Check, 2, 5)
	answers(t, one, Check, 2, 6)
}

// P6.1: the same question has the same answer, whatever was asked between, and takes no draw again.
func TestAgain(t *testing.T) {
	o := Of(tape.Of([]uint64{31, 32, 33, 34, 35, 36, 37, 38, 39}))
	given := []struct {
		f        Function
		in, want uint64
	}{
		{Put, 4, 31}, {Check, 4, 32}, {Check, 5, 33}, {Put, 5, 34},
		{2, 4, 35}, {-1, 4, 36}, {math.MaxInt, 4, 37}, {math.MinInt, 4, 38},
	}
	for _, g := range given {
		answers(t, o, g.f, g.in, g.want)
		answers(t, o, g.f, g.in, g.want)
	}
	for from := range given {
		for k := range given {
			// Three has no part in common with eight, so that these are all of them, in some other order.
			g := given[(from+3*k)%len(given)]
			answers(t, o, g.f, g.in, g.want)
		}
	}
	leaves(t, o, 1)
	if all := o.Entries(); len(all) != len(given) {
		t.Errorf("Entries %v", all)
	}
}

// P6.1: functions are told apart by the whole of their numbers, those behind the named ones, too.
func TestEachFunction(t *testing.T) {
	var fs []Function
	for k := range 64 {
		fs = append(fs, 1<<k, -1<<k-1)
	}
	fs = append(fs, 0)
	list := make([]uint64, len(fs))
	for k := range list {
		list[k] = uint64(100 + k)
	}
	o := Of(tape.Of(list))
	for k, f := range fs {
		knows(t, o, f, 1, 0, false)
		answers(t, o, f, 1, list[k])
	}
	for k, f := range fs {
		answers(t, o, f, 1, list[k])
	}
	leaves(t, o, 0)
}

// P6.1: questions that are alike when they are cut have one answer, whichever of them is asked first.
func TestCut(t *testing.T) {
	for _, like := range [][]uint64{
		{0, 1 << 48, 1 << 63, 0xffff << 48},
		{1, 1<<48 + 1, 1<<49 + 1, 1<<63 + 1},
		{1<<48 - 1, math.MaxUint64, 1<<49 - 1},
		{0x56789abcdef0, 0x123456789abcdef0, 0xffff56789abcdef0},
	} {
		for _, f := range []Function{Put, Check, 7} {
			for _, first := range like {
				o := Of(tape.Of([]uint64{41, 42}))
				answers(t, o, f, first, 41)
				for _, in := range like {
					answers(t, o, f, in, 41)
					knows(t, o, f, in, 41, true)
				}
				leaves(t, o, 1)
				enters(t, o, Entry{f, like[0], 41})
			}
		}
	}
}

// P6.1: each of a word's 48 bits makes another question, and none of the bits ahead of them does.
func TestBits(t *testing.T) {
	list := make([]uint64, 50)
	for k := range list {
		list[k] = uint64(500 + k)
	}
	o := Of(tape.Of(list))
	answers(t, o, Put, 0, 500)
	for k := range 64 {
		want := uint64(500)
		if k < 48 {
			want = uint64(501 + k)
		}
		answers(t, o, Put, 1<<k, want)
	}
	leaves(t, o, 1)
}

// P6.1: answers may be alike, and each stays the answer of its own question.
func TestLikeAnswers(t *testing.T) {
	o := Of(tape.Of([]uint64{8, 8, 1<<48 + 8, 9}))
	answers(t, o, Put, 1, 8)
	answers(t, o, Put, 2, 8)
	answers(t, o, Check, 1, 8)
	answers(t, o, Check, 2, 9)
	answers(t, o, Put, 2, 8)
	leaves(t, o, 0)
	enters(t, o, Entry{Put, 1, 8}, Entry{Put, 2, 8}, Entry{Check, 1, 8}, Entry{Check, 2, 9})
}

// P6.1: an answer of 0 was given like others: it is known, entered, and not drawn again.
func TestZeroAnswer(t *testing.T) {
	o := Of(tape.Of([]uint64{0, 1 << 48, 3}))
	answers(t, o, Put, 0, 0)
	knows(t, o, Put, 0, 0, true)
	answers(t, o, Put, 0, 0)
	leaves(t, o, 2)
	answers(t, o, Check, 0, 0)
	knows(t, o, Check, 0, 0, true)
	answers(t, o, Check, 0, 0)
	leaves(t, o, 1)
	answers(t, o, Check, 1, 3)
	answers(t, o, Put, 0, 0)
	enters(t, o, Entry{Put, 0, 0}, Entry{Check, 0, 0}, Entry{Check, 1, 3})
}

// P6.1: an answer is cut, as the tape's draws are, to the greatest word.
func TestGreatestAnswer(t *testing.T) {
	o := Of(tape.Of([]uint64{math.MaxUint64, math.MaxUint64}))
	answers(t, o, Put, math.MaxUint64, 1<<48-1)
	draws(t, o, 1<<48-1)
	enters(t, o, Entry{Put, 1<<48 - 1, 1<<48 - 1})
}

// P6.1: ahead of an answer none is known, and to ask for that takes no draw, and enters nothing.
func TestKnown(t *testing.T) {
	o := Of(tape.Of([]uint64{51, 52}))
	for range 5 {
		knows(t, o, Put, 6, 0, false)
	}
	leaves(t, o, 2)
	enters(t, o)
	answers(t, o, Put, 6, 51)
	for range 5 {
		knows(t, o, Put, 6, 51, true)
		knows(t, o, Put, 1<<48+6, 51, true)
		knows(t, o, Check, 6, 0, false)
		knows(t, o, 2, 6, 0, false)
		knows(t, o, -1, 6, 0, false)
		// Neither an answer nor a draw is a question.
		knows(t, o, Put, 51, 0, false)
		knows(t, o, Put, 52, 0, false)
	}
	leaves(t, o, 1)
	answers(t, o, Check, 6, 52)
	knows(t, o, Check, 6, 52, true)
	knows(t, o, Put, 6, 51, true)
}

// P6.2: all answers in the order in which they were given first, whatever their questions' order is.
func TestEntries(t *testing.T) {
	o := Of(tape.Of([]uint64{64, 63, 62, 61, 60}))
	enters(t, o)
	want := []Entry{{Check, 9, 64}, {Put, 9, 63}, {5, 1<<48 - 1, 62}, {Put, 2, 61}, {-5, 0, 60}}
	for k, e := range want {
		answers(t, o, e.Of, e.In+1<<48, e.Out)
		enters(t, o, want[:k+1]...)
		for back := k; back >= 0; back-- {
			answers(t, o, want[back].Of, want[back].In, want[back].Out)
		}
		enters(t, o, want[:k+1]...)
	}
	atEnd(t, o, Put, 3)
	enters(t, o, want...)
}

// P6.2: a draw is for something else: no answer of the oracle's, and the next answer is the draw behind it.
func TestDraw(t *testing.T) {
	o := Of(tape.Of([]uint64{71, 72, 73, 74, 1<<48 + 75}))
	draws(t, o, 71)
	enters(t, o)
	answers(t, o, Put, 1, 72)
	draws(t, o, 73)
	enters(t, o, Entry{Put, 1, 72})
	answers(t, o, Put, 1, 72)
	answers(t, o, Put, 2, 74)
	draws(t, o, 75)
	if v, err := o.Draw(); v != 0 || !errors.Is(err, api.ErrTape) {
		t.Errorf("Draw at the end: %d, %v", v, err)
	}
	for _, in := range []uint64{71, 73, 75, 0} {
		knows(t, o, Put, in, 0, false)
		knows(t, o, Check, in, 0, false)
	}
	enters(t, o, Entry{Put, 1, 72}, Entry{Put, 2, 74})
}

// P6.2: how many are left, by hand: ahead of the first draw, between draws, behind the last one.
func TestLeft(t *testing.T) {
	o := Of(tape.Of([]uint64{81, 82, 83, 84}))
	for k, step := range []struct {
		do   func()
		left int
	}{
		{func() {}, 4},
		{func() { o.Ask(Put, 1) }, 3},
		{func() { o.Ask(Put, 1) }, 3},
		{func() { o.Draw() }, 2},
		{func() { o.Known(Put, 2) }, 2},
		{func() { o.Entries() }, 2},
		{func() { o.Ask(Put, 2) }, 1},
		{func() { o.Ask(Check, 1<<48+2) }, 0},
		{func() { o.Ask(Check, 2) }, 0},
		{func() { o.Ask(Check, 3) }, 0},
		{func() { o.Draw() }, 0},
	} {
		step.do()
		if got := o.Left(); got != step.left {
			t.Errorf("step %d: Left %d, want %d", k, got, step.left)
		}
	}
}

// P6.1, P6.2, W3: behind the last draw nothing changes any more: what was answered is told still, nothing else is.
func TestEnd(t *testing.T) {
	list := []uint64{91, 92, 93}
	o, m := Of(tape.Of(list)), &model{list: list}
	ask(t, o, m, Put, 1)
	draw(t, o, m)
	ask(t, o, m, Check, 0)
	for range 200 {
		draw(t, o, m)
		for _, q := range asked() {
			ask(t, o, m, q.f, q.in)
		}
		leaves(t, o, 0)
		answers(t, o, Put, 1, 91)
		answers(t, o, Check, 1<<48, 93)
		enters(t, o, Entry{Put, 1, 91}, Entry{Check, 0, 93})
	}
	see(t, o, m, asked())
}

// W6: what Entries answers is changed, and put behind, and the oracle's answers stay.
func TestEntriesChanged(t *testing.T) {
	list := []uint64{1, 2, 3, 4, 5, 6, 7}
	o, m := Of(tape.Of(list)), &model{list: list}
	for k := range 9 {
		ask(t, o, m, Function(k%3), uint64(k))
		all := o.Entries()
		// A piece of the oracle's own list would have its room, where the next answer goes.
		more := append(all, Entry{9, 9, 9})
		for i := range more {
			more[i] = Entry{Of: Put, In: uint64(k), Out: 1000}
		}
		clear(all[:cap(all)])
		see(t, o, m, asked())
	}
}

// W6: two answers of Entries share no memory, and an earlier one does not grow.
func TestEntriesApart(t *testing.T) {
	o := Of(tape.Of([]uint64{1, 2, 3}))
	o.Ask(Put, 5)
	o.Ask(Check, 5)
	first, second := o.Entries(), o.Entries()
	first[0] = Entry{}
	first = append(first[:1], Entry{Of: 4})
	o.Ask(Put, 6)
	if want := []Entry{{Put, 5, 1}, {Check, 5, 2}}; !slices.Equal(second, want) {
		t.Errorf("%v, want %v", second, want)
	}
	if want := []Entry{{}, {Of: 4}}; !slices.Equal(first, want) {
		t.Errorf("%v, want %v", first, want)
	}
	enters(t, o, Entry{Put, 5, 1}, Entry{Check, 5, 2}, Entry{Put, 6, 3})
}

// W6: a list that a tape was made of is changed behind that, and neither draws nor answers are.
func TestListChanged(t *testing.T) {
	list := []uint64{1, 2, 3}
	o := Of(tape.Of(list))
	answers(t, o, Put, 1, 1)
	clear(list)
	answers(t, o, Put, 1, 1)
	answers(t, o, Put, 2, 2)
	draws(t, o, 3)
	enters(t, o, Entry{Put, 1, 1}, Entry{Put, 2, 2})
}

// P6.1, P6.2: every run of up to five steps, on tapes that are too short, just long enough and longer.
func TestShortRuns(t *testing.T) {
	qs := []query{{Put, 0}, {Put, 1 << 48}, {Check, 0}, {Put, 1<<48 - 1}, {2, 0}}
	tapes := [][]uint64{nil, {7}, {0, 1 << 48}, {7, 7, 9}, {1<<48 - 1, 0, 5, math.MaxUint64, 6, 4}}
	runs := [][]int{nil}
	for from := 0; from < len(runs); from++ {
		for _, list := range tapes {
			o, m := Of(tape.Of(list)), &model{list: list}
			for _, step := range runs[from] {
				if step == len(qs) {
					draw(t, o, m)
				} else {
					ask(t, o, m, qs[step].f, qs[step].in)
				}
			}
			see(t, o, m, qs)
		}
		if len(runs[from]) == 5 {
			continue
		}
		for step := range len(qs) + 1 {
			runs = append(runs, append(slices.Clone(runs[from]), step))
		}
	}
}

// P6.1, P6.2: long runs of strewn steps, of few questions and of many.
func TestStrewnRuns(t *testing.T) {
	next := uint64(1)
	strewn := func(below uint64) uint64 {
		next = next*6364136223846793005 + 1442695040888963407
		return next >> 33 % below
	}
	for _, words := range []uint64{2, 10, 40} {
		list := make([]uint64, 60)
		for k := range list {
			list[k] = strewn(20) << 44
		}
		o, m := Of(tape.Of(list)), &model{list: list}
		for range 400 {
			f, in := Function(strewn(4))-1, strewn(words)+strewn(3)<<48
			switch strewn(8) {
			case 0:
				draw(t, o, m)
			default:
				ask(t, o, m, f, in)
			}
			see(t, o, m, []query{{f, in}, {f + 1, in}, {f, in + 1}})
		}
	}
}

// W1: many questions are asked, and asked again, in a time that grows as their number does.
func TestLong(t *testing.T) {
	const length = 1 << 18
	for _, step := range []uint64{1, 1 << 8, 1 << 30} {
		list := make([]uint64, length)
		for k := range list {
			list[k] = uint64(3 * k)
		}
		o := Of(tape.Of(list))
		for range 2 {
			for k := range uint64(length) {
				if v, err := o.Ask(Function(k%2), k*step); v != 3*k || err != nil {
					t.Fatalf("step %d, question %d: %d, %v", step, k, v, err)
				}
			}
		}
		atEnd(t, o, 2, 0)
		leaves(t, o, 0)
		for k, e := range o.Entries() {
			if want := (Entry{Function(k % 2), uint64(k) * step, list[k]}); e != want {
				t.Fatalf("step %d, entry %d: %v, want %v", step, k, e, want)
			}
		}
	}
}
