package header

import (
	"bytes"
	"encoding/hex"
	"errors"
	"fmt"
	"math"
	"slices"
	"strconv"
	"testing"

	"sigillum/api"
)

// words has good ports and checks, up to their edge.
func words() []uint64 {
	list := []uint64{0, 0x010203040506, 0xf1f2f3f4f5f6, 1<<48 - 2}
	for i := 0; i < 48; i++ {
		list = append(list, 1<<i)
	}
	return append(list, 1<<48-1)
}

// longWords has those that are no words any more.
func longWords() []uint64 {
	list := []uint64{1<<48 + 1, 1<<49 - 1, math.MaxUint64 - 1, math.MaxUint64}
	for i := 48; i < 64; i++ {
		list = append(list, 1<<i)
	}
	return list
}

func goodCaps() []api.Cap {
	return []api.Cap{
		{},
		{Port: 0x212223242526, Object: 0x313233, Rights: 0x34, Check: 0x414243444546},
		{Port: 1<<48 - 1}, {Object: 1<<24 - 1}, {Rights: 255}, {Check: 1<<48 - 1},
		{Port: 1<<48 - 1, Object: 1<<24 - 1, Rights: 255, Check: 1<<48 - 1},
	}
}

func badCaps() []api.Cap {
	return []api.Cap{
		{Port: 1 << 48}, {Object: 1 << 24}, {Check: 1 << 48},
		{Port: math.MaxUint64}, {Object: math.MaxUint32}, {Check: math.MaxUint64},
		{Port: 1 << 48, Object: 1<<24 - 1, Rights: 255, Check: 1<<48 - 1},
		{Port: 1<<48 - 1, Object: 1 << 24, Rights: 255, Check: 1<<48 - 1},
		{Port: 1<<48 - 1, Object: 1<<24 - 1, Rights: 255, Check: 1 << 48},
		{Port: math.MaxUint64, Object: math.MaxUint32, Rights: 255, Check: math.MaxUint64},
	}
}

// filled differs at places that lie a multiple of 256 apart, too.
func filled(n int) []byte {
	list := make([]byte, n)
	for i := range list {
		list[i] = byte(i*7 + i/256 + 1)
	}
	return list
}

// greatest has every part at its edge.
func greatest() api.Message {
	return api.Message{
		To: 1<<48 - 1, Reply: 1<<48 - 1, ID: 1<<32 - 1, Op: 1<<16 - 1, Status: 1<<16 - 1,
		Cap: api.Cap{Port: 1<<48 - 1, Object: 1<<24 - 1, Rights: 255, Check: 1<<48 - 1},
		Arg: 1<<64 - 1, Data: filled(4096),
	}
}

// several has a part of its own in every byte.
func several() api.Message {
	return api.Message{
		To: 0x010203040506, Reply: 0x0708090a0b0c, ID: 0x0d0e0f10, Op: 0x1112, Status: 0x1314,
		Cap: api.Cap{Port: 0x15161718191a, Object: 0x1b1c1d, Rights: 0x1e, Check: 0x1f2021222324},
		Arg: 0x25262728292a2b2c, Data: []byte("pen"),
	}
}

func emptyData() [][]byte { return [][]byte{nil, {}} }

// goodMessages goes through each part's values, the other parts zero, mixed, or at their edge.
func goodMessages() []api.Message {
	var list []api.Message
	add := func(change func(m *api.Message)) {
		for _, m := range []api.Message{{}, several(), greatest()} {
			change(&m)
			list = append(list, m)
		}
	}
	add(func(m *api.Message) {})
	for _, w := range words() {
		add(func(m *api.Message) { m.To = w })
		add(func(m *api.Message) { m.Reply = w })
		add(func(m *api.Message) { m.Cap.Port = w })
		add(func(m *api.Message) { m.Cap.Check = w })
	}
	for _, c := range goodCaps() {
		add(func(m *api.Message) { m.Cap = c })
	}
	for _, v := range []uint64{0, 1, 255, 256, 1<<16 - 1, 1 << 16, 1<<32 - 1, 1 << 32, 1<<48 - 1, 1 << 48, 1 << 63, 1<<64 - 1} {
		add(func(m *api.Message) { m.Arg = v })
		add(func(m *api.Message) { m.ID = uint32(v) })
		add(func(m *api.Message) { m.Op = uint16(v) })
		add(func(m *api.Message) { m.Status = uint16(v) })
	}
	for _, d := range emptyData() {
		add(func(m *api.Message) { m.Data = d })
	}
	for _, n := range []int{0, 1, 2, 255, 256, 257, 4094, 4095, 4096} {
		add(func(m *api.Message) { m.Data = filled(n) })
	}
	return list
}

// badMessages goes through what is too great for its part, the other parts zero, mixed, or at their edge.
func badMessages() []api.Message {
	var list []api.Message
	add := func(change func(m *api.Message)) {
		for _, m := range []api.Message{{}, several(), greatest()} {
			change(&m)
			list = append(list, m)
		}
	}
	for _, w := range longWords() {
		add(func(m *api.Message) { m.To = w })
		add(func(m *api.Message) { m.Reply = w })
		add(func(m *api.Message) { m.To, m.Reply = w, w })
	}
	for _, c := range badCaps() {
		add(func(m *api.Message) { m.Cap = c })
	}
	for _, n := range []int{4097, 4098, 8192, 65535, 65536, 65537, 1<<16 + 4096, 1 << 20} {
		add(func(m *api.Message) { m.Data = make([]byte, n) })
	}
	return append(list, api.Message{
		To: math.MaxUint64, Reply: math.MaxUint64, ID: math.MaxUint32, Op: math.MaxUint16, Status: math.MaxUint16,
		Cap: api.Cap{Port: math.MaxUint64, Object: math.MaxUint32, Rights: 255, Check: math.MaxUint64},
		Arg: math.MaxUint64, Data: make([]byte, 5000),
	})
}

// bytesOf works by the digits of every part.
func bytesOf(t *testing.T, m api.Message) []byte {
	t.Helper()
	digits := fmt.Sprintf("%012x%012x%08x%04x%04x%012x%06x%02x%012x%016x%04x%x", m.To, m.Reply, m.ID, m.Op, m.Status,
		m.Cap.Port, m.Cap.Object, m.Cap.Rights, m.Cap.Check, m.Arg, len(m.Data), m.Data)
	b, e := hex.DecodeString(digits)
	if e != nil {
		t.Fatal(digits, e)
	}
	return b
}

// messageOf takes those digits apart again.
func messageOf(t *testing.T, b []byte) api.Message {
	t.Helper()
	digits := hex.EncodeToString(b)
	next := func(n int) uint64 {
		v, e := strconv.ParseUint(digits[:n], 16, 64)
		if e != nil {
			t.Fatal(digits, e)
		}
		digits = digits[n:]
		return v
	}
	m := api.Message{To: next(12), Reply: next(12), ID: uint32(next(8)), Op: uint16(next(4)), Status: uint16(next(4))}
	m.Cap = api.Cap{Port: next(12), Object: uint32(next(6)), Rights: uint8(next(2)), Check: next(12)}
	m.Arg = next(16)
	m.Data = b[len(b)-int(next(4)):]
	return m
}

// same takes data that is nil for as good as data that is empty.
func same(a, b api.Message) bool {
	return a.To == b.To && a.Reply == b.Reply && a.ID == b.ID && a.Op == b.Op && a.Status == b.Status &&
		a.Cap == b.Cap && a.Arg == b.Arg && bytes.Equal(a.Data, b.Data)
}

func isZero(m api.Message) bool { return same(m, api.Message{}) }

func wantRefused(t *testing.T, name string, b []byte) {
	t.Helper()
	m, e := Decode(b)
	if !errors.Is(e, api.ErrHeader) || !isZero(m) {
		t.Errorf("%s: Decode of %d bytes: %v, %v", name, len(b), m, e)
	}
}

// roomy is a copy with room behind its length, filled so that a write into it is seen.
func roomy(b []byte, room int) []byte {
	list := make([]byte, len(b)+room)
	copy(list, b)
	for i := len(b); i < len(list); i++ {
		list[i] = 0xee
	}
	return list[:len(b)]
}

func whole(b []byte) []byte { return b[:cap(b)] }

// overwrite turns every byte that a list can reach.
func overwrite(b []byte) {
	all := whole(b)
	for i := range all {
		all[i] ^= 0xff
	}
}

// P4.1
func TestSize(t *testing.T) {
	if Size != 46 {
		t.Error("Size:", Size)
	}
	for _, d := range emptyData() {
		if b, e := Encode(api.Message{Data: d}); e != nil || len(b) != Size {
			t.Error("without data:", len(b), e)
		}
	}
}

// P4.1
func TestMayByHand(t *testing.T) {
	for _, x := range []struct {
		m    api.Message
		want bool
	}{
		{api.Message{}, true},
		{api.Message{To: 281474976710655}, true},
		{api.Message{To: 281474976710656}, false},
		{api.Message{Reply: 281474976710655}, true},
		{api.Message{Reply: 281474976710656}, false},
		{api.Message{ID: 4294967295, Op: 65535, Status: 65535, Arg: 18446744073709551615}, true},
		{api.Message{Cap: api.Cap{Port: 281474976710655}}, true},
		{api.Message{Cap: api.Cap{Port: 281474976710656}}, false},
		{api.Message{Cap: api.Cap{Object: 16777215}}, true},
		{api.Message{Cap: api.Cap{Object: 16777216}}, false},
		{api.Message{Cap: api.Cap{Rights: 255}}, true},
		{api.Message{Cap: api.Cap{Check: 281474976710655}}, true},
		{api.Message{Cap: api.Cap{Check: 281474976710656}}, false},
		{api.Message{Data: []byte{}}, true},
		{api.Message{Data: make([]byte, 4096)}, true},
		{api.Message{Data: make([]byte, 4097)}, false},
		{api.Message{Data: make([]byte, 0, 9000)}, true},
		{greatest(), true},
	} {
		if got := May(x.m); got != x.want {
			t.Errorf("May(%v, %d bytes of data): %v", x.m.Cap, len(x.m.Data), got)
		}
	}
}

// P4.1
func TestMay(t *testing.T) {
	for _, m := range goodMessages() {
		if !May(m) {
			t.Error("may not be:", m)
		}
	}
	for _, m := range badMessages() {
		if May(m) {
			t.Error("may be:", m.To, m.Reply, m.Cap, len(m.Data))
		}
	}
}

// P4.1
func TestEncodeByHand(t *testing.T) {
	in := func(n int, at int, v ...byte) []byte {
		b := make([]byte, n)
		copy(b[at:], v)
		return b
	}
	ff := bytes.Repeat([]byte{255}, 16)
	for _, x := range []struct {
		m    api.Message
		want []byte
	}{
		{api.Message{}, make([]byte, 46)},
		{api.Message{Data: []byte{}}, make([]byte, 46)},
		{api.Message{To: 1}, in(46, 5, 1)},
		{api.Message{To: 1<<48 - 1}, in(46, 0, ff[:6]...)},
		{api.Message{Reply: 1<<48 - 1}, in(46, 6, ff[:6]...)},
		{api.Message{ID: 1<<32 - 1}, in(46, 12, ff[:4]...)},
		{api.Message{Op: 1<<16 - 1}, in(46, 16, ff[:2]...)},
		{api.Message{Status: 1<<16 - 1}, in(46, 18, ff[:2]...)},
		{api.Message{Cap: api.Cap{Port: 1<<48 - 1}}, in(46, 20, ff[:6]...)},
		{api.Message{Cap: api.Cap{Object: 1<<24 - 1}}, in(46, 26, ff[:3]...)},
		{api.Message{Cap: api.Cap{Rights: 255}}, in(46, 29, 255)},
		{api.Message{Cap: api.Cap{Check: 1<<48 - 1}}, in(46, 30, ff[:6]...)},
		{api.Message{Arg: 1<<64 - 1}, in(46, 36, ff[:8]...)},
		{api.Message{Data: []byte{9}}, in(47, 44, 0, 1, 9)},
		{api.Message{Data: make([]byte, 258)}, in(304, 44, 1, 2)},
		{api.Message{Data: make([]byte, 4096)}, in(4142, 44, 16, 0)},
	} {
		if got, e := Encode(x.m); e != nil || !bytes.Equal(got, x.want) {
			t.Errorf("Encode(%v): %v, %v", x.m, got, e)
		}
	}
}

// P4.1, P4.2
func TestEveryByteHasItsPlace(t *testing.T) {
	var want []byte
	for i := byte(1); i <= 44; i++ {
		want = append(want, i)
	}
	want = append(want, 0, 3, 'p', 'e', 'n')
	if got, e := Encode(several()); e != nil || !bytes.Equal(got, want) {
		t.Error("Encode:", got, e)
	}
	if got, e := Decode(want); e != nil || !same(got, several()) {
		t.Error("Decode:", got, e)
	}
}

// P4.1
func TestEncodeByDigits(t *testing.T) {
	for _, m := range goodMessages() {
		want := bytesOf(t, m)
		if got, e := Encode(m); e != nil || !bytes.Equal(got, want) {
			t.Fatalf("Encode: %x, %v; want %x", got, e, want)
		}
	}
}

// P4.1
func TestEncodeOfWhatMayNotBe(t *testing.T) {
	for _, m := range badMessages() {
		if b, e := Encode(m); !errors.Is(e, api.ErrHeader) || len(b) != 0 {
			t.Error("encoded:", m.To, m.Reply, m.Cap, len(m.Data), len(b), e)
		}
	}
}

// P4.1, P4.2
func TestEveryLengthOfData(t *testing.T) {
	for n := 0; n <= 4100; n++ {
		m := several()
		m.Data = filled(n)
		b, e := Encode(m)
		if n > 4096 {
			if !errors.Is(e, api.ErrHeader) || len(b) != 0 || May(m) {
				t.Fatal("encoded:", n, len(b), e)
			}
			continue
		}
		if e != nil || len(b) != 46+n || int(b[44])*256+int(b[45]) != n || !May(m) {
			t.Fatal("Encode:", n, len(b), e)
		}
		if got, e := Decode(b); e != nil || !same(got, m) {
			t.Fatal("Decode:", n, len(got.Data), e)
		}
	}
}

// P4.2
func TestDecodeOfEncode(t *testing.T) {
	for _, m := range goodMessages() {
		b, e := Encode(m)
		if e != nil {
			t.Fatal(m, e)
		}
		if got, e := Decode(b); e != nil || !same(got, m) {
			t.Fatal("Decode:", got, e, "of", m)
		}
	}
}

// P4.2
func TestDecodeByDigits(t *testing.T) {
	for at := 0; at < 44; at++ {
		for v := 0; v < 256; v++ {
			for _, rest := range []byte{0, 0x5a, 255} {
				b := bytes.Repeat([]byte{rest}, 48)
				b[44], b[45] = 0, 2
				b[at] = byte(v)
				got, e := Decode(b)
				if e != nil || !same(got, messageOf(t, b)) {
					t.Fatalf("Decode(%x): %v, %v", b, got, e)
				}
				if again, e := Encode(got); e != nil || !bytes.Equal(again, b) {
					t.Fatalf("Encode of Decode(%x): %x, %v", b, again, e)
				}
			}
		}
	}
}

// P4.2
func TestDecodeByHand(t *testing.T) {
	wantRefused(t, "nil", nil)
	wantRefused(t, "no bytes", []byte{})
	wantRefused(t, "45 zeros", make([]byte, 45))
	if m, e := Decode(make([]byte, 46)); e != nil || !isZero(m) {
		t.Error("46 zeros:", m, e)
	}
	wantRefused(t, "47 zeros", make([]byte, 47))
	for _, n := range []int{1, 2, 20, 36, 44} {
		wantRefused(t, "few zeros", make([]byte, n))
	}
	one := append(make([]byte, 45), 1, 7)
	if m, e := Decode(one); e != nil || !same(m, api.Message{Data: []byte{7}}) {
		t.Error("one byte of data:", m, e)
	}
	wantRefused(t, "data left out", one[:46])
	wantRefused(t, "more behind the data", append(slices.Clone(one), 0))
}

// P4.2
func TestDecodeOfCutBytes(t *testing.T) {
	for _, m := range []api.Message{{}, several(), greatest(), {Data: filled(300)}} {
		b, e := Encode(m)
		if e != nil {
			t.Fatal(e)
		}
		for n := 0; n < len(b); n++ {
			wantRefused(t, "cut", b[:n])
			// The bytes that were cut away still lie behind the length: they do not count.
			wantRefused(t, "cut, with no room", slices.Clip(b[:n]))
		}
	}
}

// P4.2
func TestDecodeOfMoreBytes(t *testing.T) {
	for _, m := range []api.Message{{}, several(), greatest(), {Data: filled(300)}} {
		b, e := Encode(m)
		if e != nil {
			t.Fatal(e)
		}
		for _, n := range []int{1, 2, 45, 46, 255, 256, 4096, 65535, 65536, 1 << 17} {
			wantRefused(t, "zeros behind", append(slices.Clone(b), make([]byte, n)...))
		}
		wantRefused(t, "twice", append(slices.Clone(b), b...))
	}
}

// P4.2
func TestDecodeNamesAndHas(t *testing.T) {
	about := []int{0, 1, 2, 255, 256, 257, 4094, 4095, 4096, 4097, 4098, 4352, 8192, 65534, 65535}
	for _, named := range about {
		for _, there := range append(slices.Clone(about), 65536, 65536+4096, 65536+4097) {
			b := append(make([]byte, 44), byte(named>>8), byte(named))
			b = append(b, filled(there)...)
			if named != there || named > 4096 {
				wantRefused(t, "named "+strconv.Itoa(named), b)
				continue
			}
			if m, e := Decode(b); e != nil || !same(m, api.Message{Data: filled(there)}) {
				t.Error("Decode:", named, len(m.Data), e)
			}
		}
	}
}

// P4.2
func TestDecodeOfAllItsAnswersMay(t *testing.T) {
	b := bytes.Repeat([]byte{255}, 46+4096)
	b[44], b[45] = 16, 0
	m, e := Decode(b)
	if e != nil || !May(m) || len(m.Data) != 4096 || m.To != api.Word || m.Arg != math.MaxUint64 {
		t.Error("all bits:", m.To, m.Arg, len(m.Data), e)
	}
	b = append(b, 255)
	b[45] = 1
	wantRefused(t, "one byte too many", b)
	wantRefused(t, "all bits, 65535 of data", bytes.Repeat([]byte{255}, 46+65535))
}

// P4.3
func TestAnswerByHand(t *testing.T) {
	m := api.Message{To: 1, Reply: 2, ID: 3, Op: 4, Status: 5, Cap: api.Cap{Port: 6, Object: 7, Rights: 8, Check: 9}, Arg: 10, Data: []byte("ask")}
	c := api.Cap{Port: 11, Object: 12, Rights: 13, Check: 14}
	got := Answer(m, api.ErrBounds, c, 15, []byte("tell"))
	want := api.Message{To: 2, Reply: 1, ID: 3, Op: 4, Status: 13, Cap: c, Arg: 15, Data: []byte("tell")}
	if !same(got, want) {
		t.Error("Answer:", got)
	}
	got = Answer(m, 0, api.Cap{}, 0, nil)
	if !same(got, api.Message{To: 2, Reply: 1, ID: 3, Op: 4}) {
		t.Error("Answer of nothing:", got)
	}
	if got := Answer(api.Message{}, 0, api.Cap{}, 0, nil); !isZero(got) {
		t.Error("Answer to a zero message:", got)
	}
}

// P4.3
func TestAnswer(t *testing.T) {
	c := api.Cap{Port: 0x51525354, Object: 0x5556, Rights: 0x57, Check: 0x58595a}
	// A message that may not be is answered part by part all the same: nothing says that it is looked at.
	for _, m := range append(goodMessages(), badMessages()...) {
		got := Answer(m, api.ErrState, c, 77, []byte("reply"))
		want := api.Message{To: m.Reply, Reply: m.To, ID: m.ID, Op: m.Op, Status: 15, Cap: c, Arg: 77, Data: []byte("reply")}
		if !same(got, want) {
			t.Fatal("Answer:", got, "want", want)
		}
		back := Answer(got, 0, m.Cap, m.Arg, m.Data)
		want = m
		want.Status = 0
		if !same(back, want) {
			t.Fatal("Answer to the answer:", back.To, back.Reply, back.ID, back.Op, back.Status)
		}
	}
}

// P4.3
func TestAnswerOfEveryStatus(t *testing.T) {
	for n := 0; n <= math.MaxUint16; n++ {
		if got := Answer(several(), api.Errno(n), api.Cap{}, 0, nil); got.Status != uint16(n) {
			t.Fatal("Status:", got.Status, "want", n)
		}
	}
	// A number that Status has no room for keeps its last bits.
	for n, want := range map[api.Errno]uint16{65536: 0, 65541: 5, -1: 65535, math.MaxInt: 65535, math.MinInt: 0} {
		if got := Answer(several(), n, api.Cap{}, 0, nil); got.Status != want {
			t.Error("Status:", got.Status, "want", want)
		}
	}
}

// P4.3
func TestAnswerOfAnyPart(t *testing.T) {
	m := several()
	for _, c := range append(goodCaps(), badCaps()...) {
		for _, arg := range []uint64{0, 1, 1 << 48, math.MaxUint64} {
			if got := Answer(m, 1, c, arg, nil); got.Cap != c || got.Arg != arg || len(got.Data) != 0 {
				t.Error("Answer:", got, "want", c, arg)
			}
		}
	}
	for _, n := range []int{0, 1, 4096, 4097, 65536, 70000} {
		if got := Answer(m, 1, api.Cap{}, 0, filled(n)); !bytes.Equal(got.Data, filled(n)) {
			t.Error("Data:", n, len(got.Data))
		}
	}
}

type wrapped struct{ inner error }

func (w wrapped) Error() string { return "wrapped" }
func (w wrapped) Unwrap() error { return w.inner }

// P4.3
func TestFault(t *testing.T) {
	other := errors.New("no Errno")
	for _, x := range []struct {
		e    error
		want uint16
	}{
		{nil, 0},
		{other, 0},
		{wrapped{other}, 0},
		{wrapped{nil}, 0},
		{errors.Join(other, other), 0},
		{api.Errno(0), 0},
		{api.ErrCapability, 1},
		{api.ErrFull, 5},
		{api.ErrHeader, 8},
		{api.ErrState, 15},
		{api.Errno(16), 16},
		{api.Errno(65535), 65535},
		{wrapped{api.ErrRights}, 2},
		{wrapped{wrapped{wrapped{api.ErrTimeout}}}, 10},
		{fmt.Errorf("told: %w", api.ErrMemory), 6},
		{errors.Join(other, api.ErrTape, api.ErrPort), 7},
	} {
		for _, m := range []api.Message{{}, several(), greatest(), {To: math.MaxUint64, Reply: 1 << 48, ID: 1, Op: 2, Data: make([]byte, 5000)}} {
			got := Fault(m, x.e)
			want := api.Message{To: m.Reply, Reply: m.To, ID: m.ID, Op: m.Op, Status: x.want}
			if !same(got, want) {
				t.Error("Fault:", x.e, got, "want", want)
			}
		}
	}
}

// P4.3
func TestFaultOfEveryErrno(t *testing.T) {
	for n := api.ErrCapability; n <= api.ErrState; n++ {
		for _, e := range []error{n, wrapped{n}} {
			if got := Fault(several(), e); got.Status != uint16(n) {
				t.Error("Status:", got.Status, "want", int(n))
			}
		}
	}
}

// P4.1 (W6)
func TestEncodeSharesNothing(t *testing.T) {
	for _, n := range []int{0, 1, 8, 300, 4096} {
		for _, room := range []int{0, 1, 46, 5000} {
			m := several()
			m.Data = roomy(filled(n), room)
			before := slices.Clone(whole(m.Data))
			b, e := Encode(m)
			if e != nil {
				t.Fatal(e)
			}
			want := slices.Clone(b)
			overwrite(b)
			if !bytes.Equal(whole(m.Data), before) {
				t.Error("the message changes with its bytes:", n, room)
			}
			overwrite(b)
			overwrite(m.Data)
			if !bytes.Equal(b, want) {
				t.Error("the bytes change with the message:", n, room)
			}
			overwrite(m.Data)
			again, _ := Encode(m)
			overwrite(again)
			if !bytes.Equal(b, want) {
				t.Error("two answers share memory:", n, room)
			}
		}
	}
}

// P4.1 (W6)
func TestMayAndRefusalsChangeNothing(t *testing.T) {
	for _, n := range []int{0, 4096, 4097} {
		m := api.Message{To: 1 << 48, Data: roomy(filled(n), 100)}
		before := slices.Clone(whole(m.Data))
		May(m)
		Encode(m)
		if !bytes.Equal(whole(m.Data), before) {
			t.Error("data changed:", n)
		}
	}
}

// P4.2 (W6)
func TestDecodeSharesNothing(t *testing.T) {
	for _, n := range []int{0, 1, 8, 300, 4096} {
		for _, room := range []int{0, 1, 46, 5000} {
			want := several()
			want.Data = filled(n)
			b := roomy(bytesOf(t, want), room)
			before := slices.Clone(whole(b))
			m, e := Decode(b)
			if e != nil || !same(m, want) {
				t.Fatal(m, e)
			}
			overwrite(m.Data)
			if !bytes.Equal(whole(b), before) {
				t.Error("the bytes change with the message:", n, room)
			}
			overwrite(m.Data)
			overwrite(b)
			if !same(m, want) {
				t.Error("the message changes with the bytes:", n, room)
			}
			overwrite(b)
			again, _ := Decode(b)
			overwrite(again.Data)
			if !same(m, want) {
				t.Error("two answers share memory:", n, room)
			}
		}
	}
}

// P4.2 (W6)
func TestDecodeRefusesWithoutChange(t *testing.T) {
	for _, n := range []int{0, 45, 47, 46 + 4097, 70000} {
		b := roomy(filled(n), 50)
		before := slices.Clone(whole(b))
		wantRefused(t, "filled", b)
		if !bytes.Equal(whole(b), before) {
			t.Error("bytes changed:", n)
		}
	}
}

// P4.3 (W6)
func TestAnswerSharesNothing(t *testing.T) {
	for _, n := range []int{0, 1, 8, 300, 4096, 5000} {
		for _, room := range []int{0, 1, 5000} {
			m := several()
			m.Data = roomy([]byte("ask"), room)
			data := roomy(filled(n), room)
			asked, told := slices.Clone(whole(m.Data)), slices.Clone(whole(data))
			got := Answer(m, 1, api.Cap{}, 0, data)
			overwrite(got.Data)
			if !bytes.Equal(whole(m.Data), asked) || !bytes.Equal(whole(data), told) {
				t.Error("what came in changes with the answer:", n, room)
			}
			overwrite(got.Data)
			overwrite(m.Data)
			overwrite(data)
			if !bytes.Equal(got.Data, filled(n)) {
				t.Error("the answer changes with what came in:", n, room)
			}
			overwrite(data)
			overwrite(Answer(m, 1, api.Cap{}, 0, data).Data)
			if !bytes.Equal(got.Data, filled(n)) {
				t.Error("two answers share memory:", n, room)
			}
		}
	}
}

// P4.3 (W6)
func TestFaultChangesNothing(t *testing.T) {
	m := several()
	m.Data = roomy(m.Data, 20)
	before := slices.Clone(whole(m.Data))
	overwrite(Fault(m, api.ErrFull).Data)
	if !bytes.Equal(whole(m.Data), before) {
		t.Error("data changed:", m.Data)
	}
}
