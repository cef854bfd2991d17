package skeleton

import (
	"bytes"
	"errors"
	"fmt"
	"math"
	"reflect"
	"slices"
	"testing"

	"sigillum/api"
	"sigillum/objects"
	"sigillum/oracle"
	"sigillum/tape"
)

// The edges of words, of arguments, and of the operations.
var (
	words = []uint64{0, 1, 2, 255, 256, 1 << 16, 1 << 32, api.Word - 1, api.Word}
	above = []uint64{api.Word + 1, api.Word + 2, api.Word + 4, 1 << 49, 1 << 63, 1<<63 + 3, math.MaxUint64 - 1, math.MaxUint64}
	args  = []uint64{0, 1, 2, 127, 128, 254, 255, 256, 257, 511, 512, 1<<16 - 1, 1 << 16, 1 << 32, 1<<32 + 1, 1<<56 - 1, 1 << 56, 1 << 63, math.MaxInt64, math.MaxUint64 - 255, math.MaxUint64 - 1, math.MaxUint64}
	ops   = []uint16{0, 1, 2, 3, 4, 5, 6, 7, 50, 98, 99, 100, 101, 102, 103, 104, 105, 200, 255, 256, 257, 261, 356, 1 << 15, 1<<16 - 2, 1<<16 - 1}
)

// The operations of a ledger.
const (
	sum   = First + iota // what was added: needs Read
	add                  // needs Write
	fail                 // an error, with a result beside it: needs nothing
	grow                 // makes another object: needs Create
	spoil                // writes into the data, and keeps them: needs an owner
	last  = 1<<16 - 1    // what the object stands for: needs Delete
)

// needs is the rights that a ledger's operations need.
var needs = map[uint16]uint8{sum: 1, add: 2, fail: 0, grow: 4, spoil: 255, last: 8}

// deed is a call of a service.
type deed struct {
	what  string
	op    uint16
	value int
	m     api.Message
}

// ledger is a service that remembers what was asked of it, and what it was told is gone.
type ledger struct {
	table *objects.Table
	sums  map[int]uint64
	notes map[int][]byte
	deeds []deed
}

func (l *ledger) Need(op uint16) (uint8, bool) {
	l.deeds = append(l.deeds, deed{what: "need", op: op})
	if _, ok := needs[op]; !ok {
		return 255, false
	}
	return needs[op], true
}

func (l *ledger) Do(op uint16, value int, m api.Message) (Result, error) {
	l.deeds = append(l.deeds, deed{"do", op, value, alike(m)})
	switch op {
	case sum:
		return Result{Arg: l.sums[value], Data: l.notes[value]}, nil
	case add:
		l.sums[value] += m.Arg
		l.notes[value] = append(l.notes[value], m.Data...)
		return Result{Cap: m.Cap, Data: m.Data}, nil
	case fail:
		return Result{m.Cap, 7, []byte("beside")}, wrapped{api.ErrNotFound}
	case grow:
		c, e := l.table.Create(int(m.Arg))
		return Result{Cap: c}, e
	case spoil:
		for k := range m.Data {
			m.Data[k] ^= 255
		}
		l.notes[value] = m.Data
		return Result{Data: m.Data}, nil
	}
	return Result{Arg: uint64(value)}, nil
}

func (l *ledger) Gone(value int) {
	l.deeds = append(l.deeds, deed{what: "gone", value: value})
	delete(l.sums, value)
	delete(l.notes, value)
}

// made is a service of functions.
type made struct {
	need func(op uint16) (uint8, bool)
	do   func(op uint16, value int, m api.Message) (Result, error)
	gone func(value int)
}

func (s made) Need(op uint16) (uint8, bool) { return s.need(op) }
func (s made) Do(op uint16, value int, m api.Message) (Result, error) {
	return s.do(op, value, m)
}
func (s made) Gone(value int) { s.gone(value) }

// needing has every operation need the same, and do the same.
func needing(need uint8, do func(op uint16, value int, m api.Message) (Result, error)) made {
	return made{
		func(uint16) (uint8, bool) { return need, true },
		do,
		func(int) {},
	}
}

// wrapped is an error around another one.
type wrapped struct{ in error }

func (w wrapped) Error() string { return "wrapped: " + w.in.Error() }
func (w wrapped) Unwrap() error { return w.in }

// fact is what the model knows of an object: all secrets that were drawn for it, of which the last one holds, and the round in which it was made or touched last.
type fact struct {
	secrets []uint64
	value   int
	since   int
}

// model has objects by their numbers, and no count that goes down: epochs and rounds it works out.
type model struct {
	port  uint64
	list  []uint64 // the draws that are left
	asked map[uint64]uint64
	round int
	facts map[int]fact
	sums  map[int]uint64
	notes map[int][]byte
	deeds []deed
}

func (d *model) draw() (uint64, api.Errno) {
	if len(d.list) == 0 {
		return 0, api.ErrTape
	}
	word := d.list[0] % (1 << 48)
	d.list = d.list[1:]
	return word, 0
}

// secret is that of object k, or 0, where there is none.
func (d *model) secret(k int) uint64 {
	all := append([]uint64{0}, d.facts[k].secrets...)
	return all[len(all)-1]
}

// check is the check of object k for rights.
func (d *model) check(k int, rights uint8) (uint64, api.Errno) {
	if rights == 255 {
		return d.secret(k), 0
	}
	in := d.secret(k) ^ uint64(rights)
	if out, ok := d.asked[in]; ok {
		return out, 0
	}
	out, fault := d.draw()
	if fault == 0 {
		d.asked[in] = out
	}
	return out, fault
}

// owner is the owner's capability of object k.
func (d *model) owner(k int) api.Cap {
	return api.Cap{Port: d.port, Object: uint32(k), Rights: 255, Check: d.secret(k)}
}

// rounds is how many object k lives on.
func (d *model) rounds(k int) int {
	if k == 0 {
		return 24
	}
	return 24 - (d.round - d.facts[k].since)
}

func (d *model) create(value int) (api.Cap, api.Errno) {
	if len(d.facts) == 64 {
		return api.Cap{}, api.ErrFull
	}
	secret, fault := d.draw()
	if fault != 0 {
		return api.Cap{}, fault
	}
	for k := 0; ; k++ {
		if _, ok := d.facts[k]; !ok {
			d.facts[k] = fact{[]uint64{secret}, value, d.round}
			return d.owner(k), 0
		}
	}
}

// take is the object that a capability opens for some rights.
func (d *model) take(c api.Cap, need uint8) (int, api.Errno) {
	k := int(c.Object)
	if _, ok := d.facts[k]; !ok || c.Port != d.port {
		return 0, api.ErrCapability
	}
	check, fault := d.check(k, c.Rights)
	switch {
	case fault != 0:
		return 0, fault
	case check != c.Check:
		return 0, api.ErrCapability
	}
	for bit := uint8(1); bit != 0; bit <<= 1 {
		if need&bit != 0 && c.Rights&bit == 0 {
			return 0, api.ErrRights
		}
	}
	return k, 0
}

// work is what comes of a request.
func (d *model) work(m api.Message) (Result, api.Errno) {
	switch {
	case m.Cap.Port>>48 != 0 || m.Cap.Check>>48 != 0 || m.Cap.Object>>24 != 0:
		return Result{}, api.ErrCapability
	case m.Op >= 100:
		return d.own(m)
	case m.Op == 0 || m.Op > 5:
		return Result{}, api.ErrCommand
	}
	k, fault := d.take(m.Cap, []uint8{1: 0, 2: 0, 3: 0, 4: 255, 5: 8}[m.Op])
	if fault != 0 {
		return Result{}, fault
	}
	f := d.facts[k]
	switch m.Op {
	case 1:
		return Result{Arg: uint64(len(f.secrets)-1)*4294967296 + uint64(d.rounds(k))}, 0
	case 2:
		d.facts[k] = fact{f.secrets, f.value, d.round}
	case 3:
		rights := uint8(m.Arg%256) & m.Cap.Rights
		check, fault := d.check(k, rights)
		if fault != 0 {
			return Result{}, fault
		}
		return Result{Cap: api.Cap{Port: d.port, Object: uint32(k), Rights: rights, Check: check}}, 0
	case 4:
		secret, fault := d.draw()
		if fault != 0 {
			return Result{}, fault
		}
		d.facts[k] = fact{append(slices.Clone(f.secrets), secret), f.value, f.since}
		return Result{Cap: d.owner(k)}, 0
	case 5:
		if k == 0 {
			return Result{}, api.ErrState
		}
		d.end(k)
	}
	return Result{}, 0
}

// own is what comes of a request to the ledger.
func (d *model) own(m api.Message) (Result, api.Errno) {
	d.deeds = append(d.deeds, deed{what: "need", op: m.Op})
	need, ok := needs[m.Op]
	if !ok {
		return Result{}, api.ErrCommand
	}
	k, fault := d.take(m.Cap, need)
	if fault != 0 {
		return Result{}, fault
	}
	value := d.facts[k].value
	d.deeds = append(d.deeds, deed{"do", m.Op, value, alike(m)})
	switch m.Op {
	case sum:
		return Result{Arg: d.sums[value], Data: bytes.Clone(d.notes[value])}, 0
	case add:
		d.sums[value] += m.Arg
		d.notes[value] = slices.Concat(d.notes[value], m.Data)
		return Result{Cap: m.Cap, Data: bytes.Clone(m.Data)}, 0
	case fail:
		return Result{}, api.ErrNotFound
	case grow:
		c, fault := d.create(int(m.Arg))
		return Result{Cap: c}, fault
	case spoil:
		turned := make([]byte, len(m.Data))
		for k, b := range m.Data {
			turned[k] = 255 - b
		}
		d.notes[value] = turned
		return Result{Data: bytes.Clone(turned)}, 0
	}
	return Result{Arg: uint64(value)}, 0
}

// end has object k be no more.
func (d *model) end(k int) {
	value := d.facts[k].value
	delete(d.facts, k)
	delete(d.sums, value)
	delete(d.notes, value)
	d.deeds = append(d.deeds, deed{what: "gone", value: value})
}

func (d *model) age() int {
	d.round++
	gone := 0
	for k := range 64 {
		if _, ok := d.facts[k]; ok && d.rounds(k) == 0 {
			d.end(k)
			gone++
		}
	}
	return gone
}

// reply is what is to be answered to a request.
func (d *model) reply(m api.Message) api.Message {
	r, fault := d.work(m)
	if fault != 0 {
		r = Result{}
	}
	return api.Message{To: m.Reply, Reply: m.To, ID: m.ID, Op: m.Op, Status: uint16(fault), Cap: r.Cap, Arg: r.Arg, Data: r.Data}
}

// alike is a message with memory of its own.
func alike(m api.Message) api.Message {
	m.Data = append([]byte(nil), m.Data...)
	return m
}

// same is whether two messages are the same; data without bytes is nil or empty, as one likes.
func same(a, b api.Message) bool { return reflect.DeepEqual(alike(a), alike(b)) }

// pair is a server of a ledger, and the model of both.
type pair struct {
	x *Server
	t *objects.Table
	o *oracle.Oracle
	l *ledger
	d *model
}

func over(port uint64, list ...uint64) pair {
	o := oracle.Of(tape.Of(list))
	t := objects.Of(port, o)
	l := &ledger{table: t, sums: map[int]uint64{}, notes: map[int][]byte{}}
	d := &model{port: port, list: list, asked: map[uint64]uint64{}, facts: map[int]fact{}, sums: map[int]uint64{}, notes: map[int][]byte{}}
	return pair{Of(t, l), t, o, l, d}
}

// draws is a list of as many words: 1000, 2000, and so on.
func draws(many int) []uint64 {
	list := make([]uint64, many)
	for k := range list {
		list[k] = 1000 * uint64(k+1)
	}
	return list
}

// fill is a server of the port 3 with so many objects, which stand for 100 and so on, and with so many draws left.
func fill(t *testing.T, many, left int) pair {
	t.Helper()
	a := over(3, draws(many+left)...)
	for k := range many {
		a.create(t, 100+k)
	}
	a.left(t, left)
	return a
}

func (a pair) create(t *testing.T, value int) api.Cap {
	t.Helper()
	want, fault := a.d.create(value)
	if c, e := a.t.Create(value); c != want || api.Number(e) != fault {
		t.Fatalf("Create(%d): %v, %v; want %v, %v", value, c, e, want, fault)
	}
	a.look(t, "Create")
	return want
}

// look holds all that can be seen without a draw against the model.
func (a pair) look(t *testing.T, after string) {
	t.Helper()
	if a.t.Len() != len(a.d.facts) || a.o.Left() != len(a.d.list) || len(a.o.Entries()) != len(a.d.asked) {
		t.Fatalf("after %s: %d objects, %d left, %d asked; want %d, %d, %d", after, a.t.Len(), a.o.Left(), len(a.o.Entries()), len(a.d.facts), len(a.d.list), len(a.d.asked))
	}
	for k := range 64 {
		f, there := a.d.facts[k]
		if v, ok := a.t.Value(k); v != f.value || ok != there {
			t.Fatalf("after %s: Value(%d): %d, %v; want %d, %v", after, k, v, ok, f.value, there)
		}
		if !there {
			continue
		}
		if e, r, err := a.t.Info(a.d.owner(k)); e != len(f.secrets)-1 || r != a.d.rounds(k) || err != nil {
			t.Fatalf("after %s: Info of %d: %d, %d, %v; want %d, %d", after, k, e, r, err, len(f.secrets)-1, a.d.rounds(k))
		}
	}
	if !reflect.DeepEqual(a.l.deeds, a.d.deeds) {
		t.Fatalf("after %s: the service had\n%v; want\n%v", after, a.l.deeds, a.d.deeds)
	}
	if !reflect.DeepEqual(a.l.sums, a.d.sums) || fmt.Sprint(a.l.notes) != fmt.Sprint(a.d.notes) {
		t.Fatalf("after %s: the service has %v, %v; want %v, %v", after, a.l.sums, a.l.notes, a.d.sums, a.d.notes)
	}
}

// serve holds a reply against the model, what was handed in against what it was, and writes into both: nothing of the server hangs on them.
func (a pair) serve(t *testing.T, m api.Message) api.Message {
	t.Helper()
	held := alike(m)
	want := a.d.reply(alike(m))
	got := a.x.Serve(m)
	if !same(got, want) {
		t.Fatalf("Serve(%v): %v; want %v", held, got, want)
	}
	if !same(m, held) {
		t.Fatalf("Serve wrote into what was handed in: %v; it was %v", m, held)
	}
	for k := range got.Data {
		got.Data[k] ^= 0x55
	}
	if !same(m, held) {
		t.Fatal("what is answered shares memory with what was handed in")
	}
	for k := range m.Data {
		m.Data[k] ^= 0x33
	}
	a.look(t, "Serve")
	return want
}

// request is one whose every part says something.
func request(op uint16, c api.Cap, arg uint64) api.Message {
	return api.Message{To: 21, Reply: 22, ID: 23, Op: op, Status: 24, Cap: c, Arg: arg, Data: []byte("data")}
}

// ask is what a request has as its answer, with its error.
func (a pair) ask(t *testing.T, op uint16, c api.Cap, arg uint64) (Result, api.Errno) {
	t.Helper()
	r := a.serve(t, request(op, c, arg))
	return Result{r.Cap, r.Arg, r.Data}, api.Errno(r.Status)
}

// mask is a restricted capability.
func (a pair) mask(t *testing.T, c api.Cap, arg uint64) api.Cap {
	t.Helper()
	r, fault := a.ask(t, Restrict, c, arg)
	if fault != 0 {
		t.Fatal(c, arg, fault)
	}
	return r.Cap
}

// refused holds the error of an answer, beside which nothing is.
func (a pair) refused(t *testing.T, op uint16, c api.Cap, arg uint64, want api.Errno) {
	t.Helper()
	if r, fault := a.ask(t, op, c, arg); fault != want || !nothing(r) {
		t.Fatalf("operation %d by %v: %v, %v; want %v", op, c, r, fault, want)
	}
}

// works holds that an answer has neither an error nor anything else.
func (a pair) works(t *testing.T, op uint16, c api.Cap) {
	t.Helper()
	a.refused(t, op, c, 9, 0)
}

func nothing(r Result) bool { return r.Cap == api.Cap{} && r.Arg == 0 && len(r.Data) == 0 }

func (a pair) age(t *testing.T) int {
	t.Helper()
	want := a.d.age()
	if n := a.x.Age(); n != want {
		t.Fatalf("Age: %d; want %d", n, want)
	}
	a.look(t, "Age")
	return want
}

// left holds how many draws are left against a number that is written out.
func (a pair) left(t *testing.T, want int) {
	t.Helper()
	if got := a.o.Left(); got != want {
		t.Fatalf("%d draws are left; want %d", got, want)
	}
}

// told is what the service was told is gone.
func (a pair) told() []int {
	var values []int
	for _, x := range a.l.deeds {
		if x.what == "gone" {
			values = append(values, x.value)
		}
	}
	return values
}

// count is how many deeds of a kind there were.
func (a pair) count(what string) int {
	n := 0
	for _, x := range a.l.deeds {
		if x.what == what {
			n++
		}
	}
	return n
}

// P24.1, P24.2: the chapter's example.
func TestExample(t *testing.T) {
	x := objects.Of(3, oracle.Of(tape.Of([]uint64{5})))
	c, _ := x.Create(7)
	c.Port = 4
	r := Of(x, &ledger{}).Serve(api.Message{Op: Touch, Cap: c})
	if !same(r, api.Message{Op: 2, Status: 1}) {
		t.Error(r)
	}
}

// The operations are numbers that others know, too.
func TestOperations(t *testing.T) {
	if !slices.Equal([]uint16{Info, Touch, Restrict, Revoke, Destroy, First}, []uint16{1, 2, 3, 4, 5, 100}) {
		t.Error(Info, Touch, Restrict, Revoke, Destroy, First)
	}
}

// P24.1: without objects, without a service, and without both, each Serve answers ErrCommand, whatever is served, and Age is 0; nothing changes, and nothing is asked of the service.
func TestWithout(t *testing.T) {
	a := fill(t, 2, 3)
	bare := map[string]*Server{"no objects": Of(nil, a.l), "no service": Of(a.t, nil), "nothing": Of(nil, nil), "zero": {}}
	asked := []api.Cap{{}, a.d.owner(0), a.d.owner(1), {Port: 3, Object: 1, Rights: 1}, {Port: 4}, {Port: 3, Object: 9}, {Port: 1 << 48}, {Check: math.MaxUint64}, {Object: 1 << 24}}
	for name, x := range bare {
		for op := range 1 << 16 {
			for _, c := range asked {
				if op > 300 && op < 65500 && op%97 != 0 {
					continue
				}
				m := request(uint16(op), c, 1)
				if r := x.Serve(m); !same(r, api.Message{To: 22, Reply: 21, ID: 23, Op: uint16(op), Status: 3}) {
					t.Fatal(name, m, r)
				}
			}
		}
		for range 30 {
			if n := x.Age(); n != 0 {
				t.Fatal(name, n)
			}
		}
		a.look(t, name)
	}
	if len(a.l.deeds) != 0 {
		t.Fatal(a.l.deeds)
	}
}

// P24.1: where an answer goes, and of which transaction and operation it is, whatever comes of the request.
func TestWhere(t *testing.T) {
	a := fill(t, 3, 300)
	for k, to := range append(slices.Clone(words), above...) {
		for _, reply := range append(slices.Clone(above), words...) {
			for n, id := range []uint32{0, 1, 255, 256, 1 << 16, 1<<31 - 1, 1 << 31, 1<<32 - 1} {
				op := ops[(7*k+n)%len(ops)]
				if op == Destroy {
					op = Touch
				}
				m := api.Message{To: to, Reply: reply, ID: id, Op: op, Cap: a.d.owner(1), Arg: uint64(n)}
				r := a.x.Serve(m)
				if r.To != reply || r.Reply != to || r.ID != id || r.Op != op {
					t.Fatal(m, r)
				}
				want := a.d.reply(m)
				if !same(r, want) {
					t.Fatal(m, r, want)
				}
			}
		}
	}
	a.look(t, "all")
}

// P24.1: an answer has nothing of the request but where it goes, and what comes of it.
func TestNothingOfTheRequest(t *testing.T) {
	a := fill(t, 2, 1)
	full := api.Message{To: 31, Reply: 32, ID: 33, Status: 65535, Arg: math.MaxUint64, Data: []byte("all that is asked")}
	for _, x := range []struct {
		op   uint16
		want api.Message
	}{
		{Info, api.Message{Arg: 24}},
		{Touch, api.Message{}},
		{Restrict, api.Message{Cap: api.Cap{Port: 3, Object: 1, Rights: 255, Check: 2000}}},
		{0, api.Message{Status: 3}},
		{6, api.Message{Status: 3}},
		{99, api.Message{Status: 3}},
		{106, api.Message{Status: 3}},
		{last, api.Message{Arg: 101}},
		{Revoke, api.Message{Cap: api.Cap{Port: 3, Object: 1, Rights: 255, Check: 3000}}},
		{Revoke, api.Message{Status: 7}},
		{Destroy, api.Message{}},
		{Destroy, api.Message{Status: 1}},
	} {
		m := full
		m.Op, m.Cap = x.op, a.d.owner(1)
		x.want.To, x.want.Reply, x.want.ID, x.want.Op = 32, 31, 33, x.op
		if r := a.serve(t, m); !same(r, x.want) {
			t.Fatal(x.op, r, x.want)
		}
	}
}

// P24.2: a capability that may not be is ErrCapability, by any operation, also by one that there is not, and the service is not asked; those about it may be.
func TestMayNot(t *testing.T) {
	a := fill(t, 2, 2)
	var bad []api.Cap
	for _, word := range above {
		c := a.d.owner(1)
		c.Port = word
		d := a.d.owner(1)
		d.Check = word
		bad = append(bad, c, d, api.Cap{Port: word}, api.Cap{Check: word})
	}
	for _, object := range []uint32{1 << 24, 1<<24 + 1, 1 << 25, 1 << 31, 1<<31 + 1, 1<<32 - 1} {
		c := a.d.owner(1)
		c.Object = object
		bad = append(bad, c)
	}
	for _, c := range bad {
		for _, op := range ops {
			a.refused(t, op, c, 1, api.ErrCapability)
		}
	}
	for op := range 1 << 16 {
		if r := a.x.Serve(api.Message{Op: uint16(op), Cap: bad[op%len(bad)]}); !same(r, api.Message{Op: uint16(op), Status: 1}) {
			t.Fatal(op, r)
		}
	}
	if len(a.l.deeds) != 0 {
		t.Fatal(a.l.deeds)
	}
	for _, c := range []api.Cap{{Port: api.Word}, {Check: api.Word}, {Object: api.Objects - 1}} {
		a.refused(t, 0, c, 1, api.ErrCommand)
		a.refused(t, Touch, c, 1, api.ErrCapability)
		a.refused(t, 106, c, 1, api.ErrCommand)
	}
	a.left(t, 2)
}

// P24.2: objects of a port that is no word have capabilities that may not be.
func TestPortAboveWord(t *testing.T) {
	for _, port := range above {
		a := over(port, draws(3)...)
		c := a.create(t, 1)
		for _, op := range ops {
			a.refused(t, op, c, 255, api.ErrCapability)
		}
	}
	for _, port := range words {
		a := over(port, draws(3)...)
		a.works(t, Touch, a.create(t, 1))
	}
}

// P24.2: Info tells the epoch times 2^32 and the rounds, of none and of several Revokes, by the owner and by others.
func TestInfo(t *testing.T) {
	a := fill(t, 3, 80)
	for epoch := range uint64(6) {
		for round := range uint64(3) {
			for k, rounds := range []uint64{24, 24 - 3*epoch - round, 24 - 3*epoch - round} {
				if r, fault := a.ask(t, Info, a.d.owner(k), 77); fault != 0 || r.Arg != epoch<<32+rounds || r.Cap != (api.Cap{}) || len(r.Data) != 0 {
					t.Fatal(k, epoch, round, r, fault)
				}
				for _, arg := range []uint64{0, 8, 254} {
					if r, fault := a.ask(t, Info, a.mask(t, a.d.owner(k), arg), 0); fault != 0 || r.Arg != epoch*4294967296+rounds {
						t.Fatal(k, epoch, round, r, fault)
					}
				}
			}
			a.age(t)
		}
		for k := range 3 {
			if r, fault := a.ask(t, Revoke, a.d.owner(k), 0); fault != 0 || r.Cap != a.d.owner(k) {
				t.Fatal(k, r, fault)
			}
		}
	}
	a.works(t, Touch, a.d.owner(1))
	if r, fault := a.ask(t, Info, a.d.owner(1), 0); fault != 0 || r.Arg != 6<<32+24 {
		t.Fatal(r, fault)
	}
}

// P24.2: a great epoch stands above the rounds, and does not run into them.
func TestManyRevokes(t *testing.T) {
	a := fill(t, 2, 3000)
	c := a.d.owner(1)
	for range 3000 {
		c = a.x.Serve(api.Message{Op: Revoke, Cap: c}).Cap
	}
	if r := a.x.Serve(api.Message{Op: Info, Cap: c}); r.Arg != 3000<<32+24 || r.Status != 0 {
		t.Fatal(r)
	}
}

// P24.2: Touch has an object live on, by whatever capability opens it, and answers nothing.
func TestTouch(t *testing.T) {
	a := fill(t, 3, 4)
	none := a.mask(t, a.d.owner(1), 0)
	for _, c := range []api.Cap{a.d.owner(1), none, a.mask(t, none, 255), a.d.owner(0)} {
		for range 20 {
			a.age(t)
			a.works(t, Touch, a.d.owner(2))
		}
		a.works(t, Touch, c)
		a.works(t, Touch, a.d.owner(1))
	}
	if r, _ := a.ask(t, Info, none, 0); r.Arg != 24 {
		t.Fatal(r)
	}
	if a.count("need")+a.count("do")+a.count("gone") != 0 {
		t.Fatal(a.l.deeds)
	}
}

// P24.2: Restrict goes by Arg's last 8 bits alone.
func TestRestrictArgs(t *testing.T) {
	a := fill(t, 2, 255)
	for mask := range uint64(256) {
		for _, high := range []uint64{0, 256, 1 << 16, 1 << 32, 1 << 63, math.MaxUint64 - 255} {
			r, fault := a.ask(t, Restrict, a.d.owner(1), high+mask)
			if fault != 0 || r.Cap.Rights != uint8(mask) || r.Cap.Port != 3 || r.Cap.Object != 1 || r.Arg != 0 || len(r.Data) != 0 {
				t.Fatal(mask, high, r, fault)
			}
		}
	}
	a.left(t, 0)
	for _, x := range []struct {
		arg    uint64
		rights uint8
	}{{0, 0}, {255, 255}, {256, 0}, {257, 1}, {511, 255}, {math.MaxUint64, 255}, {math.MaxUint64 - 255, 0}, {math.MaxUint64 - 1, 254}} {
		if c := a.mask(t, a.d.owner(1), x.arg); c.Rights != x.rights || x.rights == 255 && c != (api.Cap{Port: 3, Object: 1, Rights: 255, Check: 2000}) {
			t.Fatal(x, c)
		}
	}
}

// P24.2: what is restricted twice has what both masks have; no right comes back.
func TestRestrictTwice(t *testing.T) {
	a := fill(t, 1, 255)
	for _, one := range args {
		first := a.mask(t, a.d.owner(0), one)
		for _, two := range args {
			second := a.mask(t, first, two)
			if second.Rights != uint8(one&two) || a.mask(t, second, 255) != second {
				t.Fatal(one, two, second)
			}
			a.works(t, Touch, second)
		}
	}
}

// P24.2: where no draw is left, Restrict is ErrTape, but for rights that were asked for.
func TestRestrictNoDraw(t *testing.T) {
	a := fill(t, 2, 1)
	see := a.mask(t, a.d.owner(1), 1)
	a.left(t, 0)
	a.refused(t, Restrict, a.d.owner(1), 2, api.ErrTape)
	a.refused(t, Restrict, see, 0, api.ErrTape)
	a.refused(t, Restrict, a.d.owner(0), 0, api.ErrTape)
	if a.mask(t, a.d.owner(1), 257) != see || a.mask(t, see, 255) != see || a.mask(t, a.d.owner(1), 255) != a.d.owner(1) {
		t.Fatal(see)
	}
}

// P24.2: Revoke answers the new owner's capability, of the object 0, too; nothing of earlier epochs opens anything.
func TestRevoke(t *testing.T) {
	a := fill(t, 2, 6)
	for k := range 2 {
		own := a.d.owner(k)
		see := a.mask(t, own, 127)
		a.refused(t, Revoke, see, 0, api.ErrRights)
		r, fault := a.ask(t, Revoke, own, 5)
		if want := (api.Cap{Port: 3, Object: uint32(k), Rights: 255, Check: uint64(4000 + 3000*k)}); r.Cap != want || fault != 0 || r.Arg != 0 || len(r.Data) != 0 {
			t.Fatal(r, fault, want)
		}
		a.works(t, Touch, r.Cap)
		for _, op := range []uint16{Info, Touch, Restrict, Revoke, Destroy, sum, add, last} {
			a.refused(t, op, own, 1, api.ErrCapability)
		}
		a.refused(t, Touch, see, 1, api.ErrCapability)
	}
	a.left(t, 0)
	a.refused(t, Revoke, a.d.owner(1), 0, api.ErrTape)
	a.works(t, Touch, a.d.owner(1))
	if len(a.told()) != 0 {
		t.Fatal(a.told())
	}
}

// P24.2: Destroy tells the service once what the object stood for, and answers nothing; what is no more is ErrCapability, and told no more.
func TestDestroy(t *testing.T) {
	a := fill(t, 5, 4)
	for n, k := range []int{3, 1, 4} {
		c := a.d.owner(k)
		if n > 0 {
			c = a.mask(t, c, 8)
		}
		a.works(t, Destroy, c)
		if !slices.Equal(a.told(), []int{103, 101, 104}[:n+1]) {
			t.Fatal(a.told())
		}
		for range 2 {
			a.refused(t, Destroy, c, 0, api.ErrCapability)
		}
		a.refused(t, Touch, c, 0, api.ErrCapability)
	}
	a.refused(t, Destroy, a.mask(t, a.d.owner(2), 247), 0, api.ErrRights)
	if a.t.Len() != 2 || len(a.told()) != 3 || a.count("need")+a.count("do") != 0 {
		t.Fatal(a.t.Len(), a.l.deeds)
	}
}

// P24.2: what an object stood for is told, whatever it is; two that stood for the same are both told.
func TestGoneValues(t *testing.T) {
	a := fill(t, 1, 30)
	values := []int{math.MinInt64, -1, 0, 1, 63, 64, math.MaxInt32, 1 << 32, math.MaxInt64, 0, 0, -1}
	for k, value := range values {
		a.create(t, value)
		a.works(t, Destroy, a.d.owner(1))
		if !slices.Equal(a.told(), values[:k+1]) {
			t.Fatal(a.told())
		}
	}
	for _, value := range values {
		a.create(t, value)
	}
	for k := range values {
		a.works(t, Destroy, a.d.owner(k+1))
	}
	if !slices.Equal(a.told(), append(slices.Clone(values), values...)) {
		t.Fatal(a.told())
	}
}

// P24.2: the object 0 is not destroyed: ErrState, if its capability is taken for Delete, and else its error; the object stays, and the service is not told.
func TestDestroyZero(t *testing.T) {
	a := fill(t, 2, 4)
	own := a.d.owner(0)
	end, see := a.mask(t, own, 8), a.mask(t, own, 247)
	bad, other := own, own
	bad.Check++
	other.Port = 4
	for _, x := range []struct {
		c    api.Cap
		want api.Errno
	}{
		{own, api.ErrState},
		{end, api.ErrState},
		{see, api.ErrRights},
		{bad, api.ErrCapability},
		{other, api.ErrCapability},
		{api.Cap{Port: 3, Rights: 8, Check: end.Check + 1}, api.ErrCapability},
		{api.Cap{Port: 3, Rights: 9}, api.ErrCapability}, // its check is drawn
		{api.Cap{Port: 3, Rights: 7}, api.ErrCapability},
		{api.Cap{Port: 3, Rights: 11}, api.ErrTape},
		{api.Cap{Port: 3, Rights: 3}, api.ErrTape},
		{api.Cap{Port: 4, Rights: 3}, api.ErrCapability},
	} {
		a.refused(t, Destroy, x.c, 8, x.want)
		a.works(t, Touch, own)
	}
	a.left(t, 0)
	if a.t.Len() != 2 || len(a.l.deeds) != 0 {
		t.Fatal(a.t.Len(), a.l.deeds)
	}
	a = over(3, 5)
	a.refused(t, Destroy, api.Cap{Port: 3, Rights: 255}, 0, api.ErrCapability)
	a.left(t, 1)
}

// P24.2: numbers that have 0 in their last bits alone are not the object 0.
func TestDestroyNotZero(t *testing.T) {
	a := fill(t, 64, 0)
	for _, number := range []uint32{64, 128, 256, 1 << 16, 1 << 23} {
		c := a.d.owner(0)
		c.Object = number
		a.refused(t, Destroy, c, 0, api.ErrCapability)
	}
	for k := 1; k < 64; k++ {
		a.works(t, Destroy, a.d.owner(k))
	}
	if a.t.Len() != 1 || len(a.told()) != 63 {
		t.Fatal(a.told())
	}
}

// P24.2: all operations below First but those five are ErrCommand, whatever the capability is that may be, and the service is not asked; it is asked once of each other one, and does each that there is once.
func TestEveryOperation(t *testing.T) {
	a := fill(t, 2, 0)
	var needed, done []uint16
	s := Of(a.t, made{
		func(op uint16) (uint8, bool) { needed = append(needed, op); return 255, op%2 == 0 },
		func(op uint16, value int, m api.Message) (Result, error) {
			if value != 101 || m.Op != op {
				t.Error(op, value, m)
			}
			done = append(done, op)
			return Result{Arg: uint64(op) + 1}, nil
		},
		func(value int) { t.Error(value) },
	})
	bad := a.d.owner(1)
	bad.Check++
	for op := range uint16(100) {
		if op >= 1 && op <= 5 {
			continue
		}
		for _, c := range []api.Cap{a.d.owner(1), bad, {}, {Port: 4}} {
			if r := s.Serve(api.Message{Op: op, Cap: c}); !same(r, api.Message{Op: op, Status: 3}) {
				t.Fatal(op, c, r)
			}
		}
	}
	if len(needed)+len(done) != 0 {
		t.Fatal(needed, done)
	}
	for op := 100; op < 1<<16; op++ {
		o := uint16(op)
		want := api.Message{Op: o, Arg: uint64(op) + 1}
		if op%2 == 1 {
			want = api.Message{Op: o, Status: uint16(api.ErrCommand)}
		}
		if r := s.Serve(api.Message{Op: o, Cap: a.d.owner(1)}); !same(r, want) {
			t.Fatal(op, r)
		}
		if needed[len(needed)-1] != o || len(needed) != op-99 || len(done) != (op-98)/2 || done[len(done)-1] != o&^1 {
			t.Fatal(op, len(needed), len(done))
		}
	}
}

// P24.2: an operation that Need says false of is ErrCommand, ahead of what the capability is, and no draw is taken.
func TestNeedFalse(t *testing.T) {
	a := fill(t, 2, 2)
	bad, none := a.d.owner(1), a.d.owner(1)
	bad.Rights, none.Object = 1, 9
	for _, op := range []uint16{106, 107, 255, 256, 1 << 15, 1<<16 - 2} {
		for _, c := range []api.Cap{a.d.owner(1), a.d.owner(0), bad, none, {}, {Port: api.Word, Check: api.Word}} {
			a.refused(t, op, c, 1, api.ErrCommand)
		}
	}
	a.left(t, 2)
	if a.count("do") != 0 || a.count("need") != 36 {
		t.Fatal(a.l.deeds)
	}
}

// P24.2: what Need tells is held against the capability's rights, each against each; Do is called for no other one.
func TestNeeds(t *testing.T) {
	a := fill(t, 2, 255)
	var held [256]api.Cap
	for rights := range held {
		held[rights] = a.mask(t, a.d.owner(1), uint64(rights))
	}
	var need uint8
	calls := 0
	s := Of(a.t, made{
		func(uint16) (uint8, bool) { return need, true },
		func(uint16, int, api.Message) (Result, error) { calls++; return Result{}, nil },
		func(int) {},
	})
	for n := range 256 {
		for rights, c := range held {
			need, calls = uint8(n), 0
			want, times := api.Errno(0), 1
			if n&^rights != 0 {
				want, times = api.ErrRights, 0
			}
			if r := s.Serve(api.Message{Op: 100, Cap: c}); r.Status != uint16(want) || calls != times {
				t.Fatal(n, rights, r, calls)
			}
		}
	}
}

// P24.2: by a capability of another port, of a number that no object has, with another check or other rights nothing is done.
func TestWrongCapabilities(t *testing.T) {
	for _, op := range []uint16{Info, Touch, Restrict, Revoke, Destroy, sum, add, fail, grow, spoil, last} {
		a := fill(t, 3, 300)
		see := a.mask(t, a.d.owner(1), 15)
		for _, good := range []api.Cap{a.d.owner(1), see} {
			for bit := range 48 {
				port, check := good, good
				port.Port ^= 1 << bit
				check.Check ^= 1 << bit
				a.refused(t, op, port, 1, api.ErrCapability)
				a.refused(t, op, check, 1, api.ErrCapability)
			}
			for bit := range 24 {
				number := good
				number.Object ^= 1 << bit
				a.refused(t, op, number, 1, api.ErrCapability)
			}
			for bit := range 8 {
				rights := good
				rights.Rights ^= 1 << bit
				a.refused(t, op, rights, 1, api.ErrCapability)
			}
		}
		if a.count("do")+a.count("gone") != 0 || a.t.Len() != 3 {
			t.Fatal(op, a.l.deeds)
		}
	}
}

// P24.2: where no draw is left, a check that is not known is ErrTape, by each operation there is; all that is known is served.
func TestNoDraw(t *testing.T) {
	a := fill(t, 2, 1)
	see := a.mask(t, a.d.owner(1), 3)
	a.left(t, 0)
	for _, op := range []uint16{Info, Touch, Restrict, Revoke, Destroy, sum, add, fail, grow, spoil, last} {
		for _, c := range []api.Cap{{Port: 3, Object: 1, Rights: 254, Check: 2000}, {Port: 3, Object: 0, Rights: 0}, {Port: 3, Object: 0, Rights: 254}} {
			a.refused(t, op, c, 1, api.ErrTape)
		}
		a.refused(t, op, api.Cap{Port: 3, Object: 5, Rights: 1}, 1, api.ErrCapability)
	}
	for _, op := range []uint16{0, 6, 99, 106} {
		a.refused(t, op, api.Cap{Port: 3, Object: 1, Rights: 254}, 1, api.ErrCommand)
	}
	a.refused(t, grow, a.d.owner(1), 7, api.ErrTape)
	a.refused(t, grow, see, 7, api.ErrRights)
	a.works(t, Touch, see)
	if r, fault := a.ask(t, last, a.d.owner(1), 0); r.Arg != 101 || fault != 0 {
		t.Fatal(r, fault)
	}
	a.works(t, Destroy, a.d.owner(1))
}

// P24.1, P24.2: a table without an oracle has no object, and no draw.
func TestNoOracle(t *testing.T) {
	l := &ledger{}
	for _, x := range []*objects.Table{objects.Of(3, nil), {}} {
		s := Of(x, l)
		for _, op := range ops {
			want := api.ErrCommand
			if _, ok := needs[op]; ok || op >= 1 && op <= 5 {
				want = api.ErrCapability
			}
			if r := s.Serve(api.Message{Op: op, Cap: api.Cap{Port: 3, Rights: 255}}); !same(r, api.Message{Op: op, Status: uint16(want)}) {
				t.Error(op, r)
			}
		}
		if s.Age() != 0 {
			t.Error("something ends")
		}
	}
}

// P24.2: Do has the operation, what the object stands for, and the message as it came; what it answers is told, each part by itself.
func TestDo(t *testing.T) {
	a := fill(t, 4, 2)
	results := []Result{{}, {Arg: 1}, {Arg: math.MaxUint64}, {Cap: a.d.owner(2)}, {Cap: api.Cap{Port: math.MaxUint64, Object: math.MaxUint32, Rights: 255, Check: math.MaxUint64}}, {Data: []byte{0}}, {Data: []byte{}}, {Data: make([]byte, 4097)}, {a.d.owner(1), 5, []byte("all")}}
	datas := [][]byte{nil, {}, {0}, []byte("xyz"), bytes.Repeat([]byte{7}, 4096), bytes.Repeat([]byte{8}, 5000)}
	for k, r := range results {
		for _, data := range datas {
			for n, arg := range args {
				m := api.Message{To: above[n%len(above)], Reply: uint64(n), ID: uint32(n), Op: []uint16{100, 1<<16 - 1}[n%2], Status: uint16(n), Cap: a.d.owner(n % 4), Arg: arg, Data: data}
				calls := 0
				s := Of(a.t, needing(uint8(n), func(op uint16, value int, got api.Message) (Result, error) {
					calls++
					if op != m.Op || value != 100+n%4 || !same(got, m) {
						t.Fatal(op, value, got, m)
					}
					return r, nil
				}))
				want := api.Message{To: m.Reply, Reply: m.To, ID: m.ID, Op: m.Op, Cap: r.Cap, Arg: r.Arg, Data: r.Data}
				if got := s.Serve(m); !same(got, want) || calls != 1 {
					t.Fatal(k, m, got, calls)
				}
			}
		}
	}
}

// P24.1, P24.2: an error that Do answers is told by the Errno that is in it, alone or wrapped, and nothing of what is answered beside it.
func TestDoFails(t *testing.T) {
	a := fill(t, 2, 0)
	for _, x := range []struct {
		e    error
		want uint16
	}{
		{api.ErrCapability, 1}, {api.ErrRights, 2}, {api.ErrCommand, 3}, {api.ErrArgument, 4}, {api.ErrFull, 5}, {api.ErrMemory, 6}, {api.ErrTape, 7}, {api.ErrHeader, 8},
		{api.ErrPort, 9}, {api.ErrTimeout, 10}, {api.ErrExists, 11}, {api.ErrNotFound, 12}, {api.ErrBounds, 13}, {api.ErrOverlap, 14}, {api.ErrState, 15},
		{api.Errno(0), 0}, {api.Errno(16), 16}, {api.Errno(65535), 65535},
		{wrapped{api.ErrBounds}, 13}, {wrapped{wrapped{api.ErrFull}}, 5}, {errors.Join(errors.New("one"), wrapped{api.ErrState}), 15},
		{errors.New("no number"), 0}, {wrapped{errors.New("no number")}, 0}, {wrapped{nil}, 0},
	} {
		s := Of(a.t, needing(0, func(op uint16, value int, m api.Message) (Result, error) {
			return Result{m.Cap, 7, []byte("beside")}, x.e
		}))
		m := request(300, a.d.owner(1), 9)
		if r := s.Serve(m); !same(r, api.Message{To: 22, Reply: 21, ID: 23, Op: 300, Status: x.want}) {
			t.Error(x, r)
		}
	}
	a.look(t, "errors")
}

// P24.2: Do may use the objects that the server has: what it makes is opened by the server, and its errors are told.
func TestDoMakes(t *testing.T) {
	a := fill(t, 1, 65)
	for k := range 63 {
		r, fault := a.ask(t, grow, a.d.owner(k), uint64(500+k))
		if want := (api.Cap{Port: 3, Object: uint32(k + 1), Rights: 255, Check: uint64(2000 + 1000*k)}); r.Cap != want || fault != 0 {
			t.Fatal(k, r, fault)
		}
		if r, fault := a.ask(t, last, r.Cap, 0); fault != 0 || r.Arg != uint64(500+k) {
			t.Fatal(r, fault)
		}
	}
	a.refused(t, grow, a.d.owner(9), 1, api.ErrFull)
	a.left(t, 2)
	a.works(t, Destroy, a.d.owner(9))
	if r, fault := a.ask(t, grow, a.d.owner(63), 777); fault != 0 || r.Cap.Object != 9 {
		t.Fatal(r, fault)
	}
}

// P24.2: what a service keeps for an object is asked for by whoever may, changed by whoever may, and gone with it.
func TestService(t *testing.T) {
	a := fill(t, 2, 10)
	own := a.d.owner(1)
	see, put := a.mask(t, own, 1), a.mask(t, own, 2)
	a.serve(t, api.Message{Op: add, Cap: put, Arg: 5, Data: []byte("ab")})
	a.serve(t, api.Message{Op: add, Cap: own, Arg: 6, Data: []byte("c")})
	if r, fault := a.ask(t, sum, see, 0); fault != 0 || r.Arg != 11 || string(r.Data) != "abc" {
		t.Fatal(r, fault)
	}
	a.refused(t, sum, put, 0, api.ErrRights)
	a.refused(t, add, see, 0, api.ErrRights)
	a.refused(t, add, a.mask(t, own, 253), 3, api.ErrRights)
	a.refused(t, fail, a.mask(t, see, 2), 3, api.ErrNotFound)
	a.refused(t, spoil, a.mask(t, own, 254), 3, api.ErrRights)
	if r, fault := a.ask(t, sum, own, 0); fault != 0 || r.Arg != 11 {
		t.Fatal(r, fault)
	}
	if r, fault := a.ask(t, sum, a.d.owner(0), 0); fault != 0 || r.Arg != 0 || len(r.Data) != 0 {
		t.Fatal(r, fault)
	}
	a.works(t, Destroy, own)
	if len(a.l.sums)+len(a.l.notes) != 0 {
		t.Fatal(a.l.sums, a.l.notes)
	}
}

// P24.3: Age tells how many ended, and the service each, by their numbers, rising, once.
func TestAge(t *testing.T) {
	a := fill(t, 6, 0)
	for round := range 23 {
		if n := a.age(t); n != 0 {
			t.Fatal(round, n)
		}
	}
	a.works(t, Touch, a.d.owner(2))
	a.works(t, Destroy, a.d.owner(4))
	if n := a.age(t); n != 3 || !slices.Equal(a.told(), []int{104, 101, 103, 105}) {
		t.Fatal(n, a.told())
	}
	for round := range 22 {
		if n := a.age(t); n != 0 {
			t.Fatal(round, n)
		}
	}
	if n := a.age(t); n != 1 || !slices.Equal(a.told(), []int{104, 101, 103, 105, 102}) {
		t.Fatal(n, a.told())
	}
	for range 50 {
		if n := a.age(t); n != 0 || len(a.told()) != 5 || a.t.Len() != 1 {
			t.Fatal(n, a.told())
		}
	}
	if r, fault := a.ask(t, Info, a.d.owner(0), 0); fault != 0 || r.Arg != 24 {
		t.Fatal(r, fault)
	}
}

// P24.3: of a full table all but the object 0 end at once, in order of their numbers, whatever they stand for and whenever they were made.
func TestAgeAll(t *testing.T) {
	a := fill(t, 64, 3)
	for _, k := range []int{40, 2, 63} {
		a.works(t, Destroy, a.d.owner(k))
	}
	for _, value := range []int{-5, math.MaxInt64, 0} {
		a.create(t, value)
	}
	for range 23 {
		a.age(t)
	}
	if n := a.age(t); n != 63 {
		t.Fatal(n)
	}
	values := a.told()[3:]
	want := make([]int, 63)
	for k := range want {
		want[k] = 101 + k
	}
	want[1], want[39], want[62] = -5, math.MaxInt64, 0
	if !slices.Equal(values, want) {
		t.Fatal(values)
	}
	if n := a.age(t); n != 0 {
		t.Fatal(n)
	}
}

// P24.3: no objects, and the object 0 alone: nothing ends.
func TestAgeNothing(t *testing.T) {
	for many := range 2 {
		a := fill(t, many, 1)
		for range 60 {
			if n := a.age(t); n != 0 || a.t.Len() != many || len(a.l.deeds) != 0 {
				t.Fatal(many, n, a.l.deeds)
			}
		}
	}
}

// P24.2, P24.3: when the service is told that something is gone, it is not there any more, nor is what ended with it; its number is free.
func TestGoneBehind(t *testing.T) {
	a := fill(t, 4, 9)
	var seen []int
	s := Of(a.t, made{
		func(uint16) (uint8, bool) { return 0, false },
		func(uint16, int, api.Message) (Result, error) { return Result{}, nil },
		func(value int) {
			seen = append(seen, value, a.t.Len())
			if c, e := a.t.Create(-value); e != nil || c.Object == 0 {
				t.Error(c, e)
			}
		},
	})
	own := a.d.owner(2)
	if r := s.Serve(api.Message{Op: Destroy, Cap: own}); r.Status != 0 || !slices.Equal(seen, []int{102, 3}) {
		t.Fatal(r, seen)
	}
	if v, ok := a.t.Value(2); v != -102 || !ok {
		t.Fatal(v, ok)
	}
	for range 23 {
		s.Age()
	}
	if n := s.Age(); n != 3 || !slices.Equal(seen, []int{102, 3, 101, 1, -102, 2, 103, 3}) {
		t.Fatal(n, seen)
	}
	if a.t.Len() != 4 {
		t.Fatal(a.t.Len())
	}
}

// W6: what the service keeps, and what it is given, is not what was handed in, nor what is answered; the data may have room behind their length.
func TestMemory(t *testing.T) {
	a := fill(t, 2, 0)
	var given, answered []byte
	echo := true
	s := Of(a.t, needing(0, func(op uint16, value int, m api.Message) (Result, error) {
		given = m.Data
		for k := range given {
			given[k]++
		}
		_ = append(given, 99)
		if !echo {
			return Result{Data: answered}, nil
		}
		return Result{Data: given}, nil
	}))
	whole := []byte("abcdef")
	m := api.Message{Op: 100, Cap: a.d.owner(1), Data: whole[:3]}
	r := s.Serve(m)
	if string(whole) != "abcdef" || string(r.Data) != "bcd" {
		t.Fatal(string(whole), string(r.Data))
	}
	given[0] = 'x'
	whole[1] = 'y'
	if string(r.Data) != "bcd" || string(given) != "xcd" || string(m.Data) != "ayc" {
		t.Fatal(string(r.Data), string(given), string(m.Data))
	}
	r.Data[2] = 'z'
	_ = append(r.Data, 'w')
	if string(given) != "xcd" || string(whole) != "aycdef" {
		t.Fatal(string(given), string(whole))
	}
	echo, answered = false, []byte("kept")
	one, two := s.Serve(m), s.Serve(m)
	one.Data[0] = 'o'
	answered[1] = 'p'
	if string(one.Data) != "oept" || string(two.Data) != "kept" || string(answered) != "kppt" {
		t.Fatal(string(one.Data), string(two.Data), string(answered))
	}
}

// W6: no other operation, and no refusal, changes the data that were handed in.
func TestDataStay(t *testing.T) {
	a := fill(t, 2, 20)
	for _, op := range ops {
		for _, c := range []api.Cap{a.d.owner(1), a.d.owner(0), {}, {Port: 1 << 48}} {
			whole := []byte("abcdef")
			r := a.x.Serve(api.Message{Op: op, Cap: c, Data: whole[:4]})
			_ = append(r.Data, "12345678"...)
			if string(whole) != "abcdef" {
				t.Fatal(op, c, string(whole))
			}
		}
	}
}

// cracked is an error that panics when one looks into it.
type cracked struct{ in *wrapped }

func (c cracked) Error() string { return c.in.Error() }
func (c cracked) Unwrap() error { return c.in.in }

// W1: a service that panics makes no listed call panic: what it does not say is ErrCommand, and what is gone is gone all the same.
func TestPanic(t *testing.T) {
	for _, with := range []any{"text", errors.New("error"), api.ErrFull, nil} {
		a := fill(t, 6, 0)
		fine := needing(0, func(uint16, int, api.Message) (Result, error) { return Result{Arg: 5}, nil })
		fall := func() { panic(with) }
		one, two, three := fine, fine, fine
		one.need = func(uint16) (uint8, bool) { fall(); return 0, true }
		one.do = func(uint16, int, api.Message) (Result, error) { t.Error("it is done"); return Result{}, nil }
		two.do = func(uint16, int, api.Message) (Result, error) { fall(); return Result{Arg: 5}, nil }
		three.do = func(uint16, int, api.Message) (Result, error) { return Result{Arg: 5}, cracked{} }
		m := api.Message{To: 1, Reply: 2, Op: 100, Cap: a.d.owner(1)}
		for k, s := range []Service{one, two, three} {
			if r := Of(a.t, s).Serve(m); !same(r, api.Message{To: 2, Reply: 1, Op: 100, Status: 3}) {
				t.Error(k, r)
			}
		}
		var told []int
		four := fine
		four.gone = func(value int) { told = append(told, value); fall() }
		x := Of(a.t, four)
		m.Op, m.Cap = Destroy, a.d.owner(3)
		if r := x.Serve(m); !same(r, api.Message{To: 2, Reply: 1, Op: 5}) || a.t.Len() != 5 {
			t.Error(r)
		}
		for range 23 {
			x.Age()
		}
		if n := x.Age(); n != 4 || !slices.Equal(told, []int{103, 101, 102, 104, 105}) || a.t.Len() != 1 {
			t.Error(n, told)
		}
		m.Op, m.Cap = 100, a.d.owner(0)
		if r := x.Serve(m); !same(r, api.Message{To: 2, Reply: 1, Op: 100, Arg: 5}) {
			t.Error(r)
		}
	}
}

// P24.1: two servers of the same objects both open them, and each tells its own service; the service of the one may ask the other.
func TestTwo(t *testing.T) {
	a := fill(t, 4, 0)
	var told []string
	var inner *Server
	name := func(s string) made {
		return made{
			func(uint16) (uint8, bool) { return 0, true },
			func(op uint16, value int, m api.Message) (Result, error) {
				if s == "outer" {
					r := inner.Serve(m)
					return Result{Arg: r.Arg + 1000}, nil
				}
				return Result{Arg: uint64(value)}, nil
			},
			func(value int) { told = append(told, fmt.Sprint(s, value)) },
		}
	}
	inner = Of(a.t, name("inner"))
	outer := Of(a.t, name("outer"))
	if r := outer.Serve(api.Message{Op: 100, Cap: a.d.owner(2)}); r.Arg != 1102 || r.Status != 0 {
		t.Fatal(r)
	}
	inner.Serve(api.Message{Op: Destroy, Cap: a.d.owner(1)})
	outer.Serve(api.Message{Op: Destroy, Cap: a.d.owner(2)})
	if r := outer.Serve(api.Message{Op: Destroy, Cap: a.d.owner(1)}); r.Status != 1 {
		t.Fatal(r)
	}
	for range 12 {
		if inner.Age()+outer.Age() != len(told)-2 {
			t.Fatal(told)
		}
	}
	if !slices.Equal(told, []string{"inner101", "outer102", "outer103"}) {
		t.Fatal(told)
	}
}

// P24.2, P24.3: operations of the skeleton and of the service, mixed, by capabilities of all kinds, with rounds between them, by hand.
func TestMixed(t *testing.T) {
	a := fill(t, 1, 12)
	root := a.d.owner(0)
	made, _ := a.ask(t, grow, a.mask(t, root, 4), 40)
	pen := made.Cap
	see := a.mask(t, pen, 1|8)
	look := a.mask(t, see, 1|2)
	a.serve(t, api.Message{Op: add, Cap: pen, Arg: 9, Data: []byte("ink")})
	for range 20 {
		a.age(t)
	}
	a.works(t, Touch, look)
	for range 20 {
		a.age(t)
	}
	if r, _ := a.ask(t, Info, see, 0); r.Arg != 4 {
		t.Fatal(r)
	}
	if r, _ := a.ask(t, sum, look, 0); r.Arg != 9 || string(r.Data) != "ink" {
		t.Fatal(r)
	}
	a.refused(t, Destroy, look, 0, api.ErrRights)
	a.refused(t, Revoke, see, 0, api.ErrRights)
	newer, _ := a.ask(t, Revoke, pen, 0)
	a.refused(t, sum, pen, 0, api.ErrCapability)
	if r, _ := a.ask(t, Info, newer.Cap, 0); r.Arg != 1<<32+4 {
		t.Fatal(r)
	}
	a.refused(t, Destroy, root, 0, api.ErrState)
	end := a.mask(t, newer.Cap, 8)
	a.works(t, Destroy, end)
	if !slices.Equal(a.told(), []int{40}) || a.x.Age() != 0 {
		t.Fatal(a.told())
	}
}

// steps is requests by the first and the last of the capabilities that were told ahead in a run, and rounds.
func steps(t *testing.T) []func(a pair, told *[]api.Cap) {
	ask := func(op uint16, first bool, arg uint64) func(a pair, told *[]api.Cap) {
		return func(a pair, told *[]api.Cap) {
			c := (*told)[len(*told)-1]
			if first {
				c = (*told)[min(1, len(*told)-1)]
			}
			if r := a.serve(t, request(op, c, arg)); r.Cap != (api.Cap{}) {
				*told = append(*told, r.Cap)
			}
		}
	}
	return []func(a pair, told *[]api.Cap){
		ask(grow, false, 70),
		ask(Restrict, false, 256+13),
		ask(Restrict, true, 7),
		ask(Revoke, true, 0),
		ask(Destroy, false, 0),
		ask(Destroy, true, 0),
		ask(Touch, false, 0),
		ask(Info, true, 0),
		ask(add, false, 3),
		func(a pair, told *[]api.Cap) {
			for range 12 {
				a.age(t)
			}
		},
	}
}

// P24.2, P24.3: each run of four of the steps behind an object, with few draws, and with enough.
func TestRuns(t *testing.T) {
	all := steps(t)
	const length = 4
	runs := 1
	for range length {
		runs *= len(all)
	}
	for r := range runs {
		a := over(3, draws(3+r%5)...)
		told := []api.Cap{a.create(t, 50), a.create(t, 60)}
		for rest, k := r, 0; k < length; rest, k = rest/len(all), k+1 {
			all[rest%len(all)](a, &told)
		}
		for _, c := range told {
			a.serve(t, request(sum, c, 0))
		}
	}
}

// strew is a source of numbers below n.
func strew(seed uint64) func(n int) int {
	state := seed + 24
	return func(n int) int {
		state = state*6364136223846793005 + 1442695040888963407
		return int(state>>33) % n
	}
}

// turned is a capability with something of it turned, or nothing.
func turned(c api.Cap, draw func(n int) int) api.Cap {
	switch draw(16) {
	case 0:
		c.Port ^= 1 << draw(64)
	case 1:
		c.Object ^= 1 << draw(32)
	case 2:
		c.Rights ^= 1 << draw(8)
	case 3:
		c.Check ^= 1 << draw(64)
	case 4:
		c.Object = uint32(draw(8))
	}
	return c
}

// strewnTape is draws that are all unlike, or few words that come again and again, so that checks are guessed.
func strewnTape(draw func(n int) int) []uint64 {
	list := make([]uint64, 5+draw(5+draw(150)))
	few := draw(3) == 0
	for k := range list {
		list[k] = uint64(draw(1<<30))<<20 + uint64(k)
		if few {
			list[k] = uint64(draw(12)) + uint64(draw(2))<<48
		}
	}
	return list
}

// P24.1 to P24.3: long strewn runs of all operations, by capabilities that were told at any time, whole and turned, with rounds between them.
func TestStrewn(t *testing.T) {
	served := map[uint16]map[uint16]int{}
	known := []uint16{Info, Touch, Restrict, Revoke, Destroy, sum, add, fail, grow, grow, grow, spoil, last}
	aged := 0
	for seed := range uint64(120) {
		draw := strew(seed)
		a := over(words[draw(len(words))], strewnTape(draw)...)
		told := []api.Cap{a.create(t, 50), {}}
		ages := 1 + draw(8)
		for range 200 {
			if draw(20) < ages {
				aged += a.age(t)
				continue
			}
			m := api.Message{To: uint64(draw(1 << 30)), Reply: uint64(draw(1 << 30)), ID: uint32(draw(1 << 30)), Status: uint16(draw(1 << 16)), Arg: uint64(draw(1 << 12)), Data: bytes.Repeat([]byte{byte(draw(256))}, draw(6))}
			m.Op = known[draw(len(known))]
			if draw(12) == 0 {
				m.Op = ops[draw(len(ops))]
			}
			m.Cap = turned(told[max(draw(len(told)), draw(len(told)))], draw)
			r := a.serve(t, m)
			if served[m.Op] == nil {
				served[m.Op] = map[uint16]int{}
			}
			served[m.Op][r.Status]++
			if r.Cap != (api.Cap{}) {
				told = append(told, r.Cap)
			}
		}
	}
	often(t, served)
	if aged < 50 {
		t.Errorf("%d grew old alone", aged)
	}
}

// often holds that strewn runs met each thing that is told of an operation.
func often(t *testing.T, served map[uint16]map[uint16]int) {
	t.Helper()
	want := map[uint16][]api.Errno{0: {api.ErrCommand}, 6: {api.ErrCommand}, 99: {api.ErrCommand}, 200: {api.ErrCommand}, fail: {api.ErrNotFound, api.ErrCapability, api.ErrTape}}
	for _, op := range []uint16{Info, Touch, Restrict} {
		want[op] = []api.Errno{0, api.ErrCapability, api.ErrTape}
	}
	for _, op := range []uint16{Revoke, Destroy, sum, add, grow, spoil, last} {
		want[op] = []api.Errno{0, api.ErrCapability, api.ErrRights, api.ErrTape}
	}
	want[Destroy] = append(want[Destroy], api.ErrState)
	for op, faults := range want {
		for _, fault := range faults {
			if n := served[op][uint16(fault)]; n < 5 {
				t.Errorf("operation %d: status %d came %d times alone", op, fault, n)
			}
		}
	}
}
