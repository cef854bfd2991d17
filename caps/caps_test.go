package caps

import (
	"bytes"
	"math"
	"math/big"
	"slices"
	"strings"
	"testing"

	"sigillum/api"
)

// words has good ports and checks, up to their edge.
func words() []uint64 {
	list := []uint64{0, 0x010203040506, 0xf1f2f3f4f5f6, 1<<48 - 2}
	for i := 0; i < 48; i++ {
		list = append(list, 1<<i)
	}
	return append(list, 1<<48-1)
}

// longWords has those that are no words any more.
func longWords() []uint64 {
	list := []uint64{1<<48 + 1, 1<<49 - 1, math.MaxUint64 - 1, math.MaxUint64}
	for i := 48; i < 64; i++ {
		list = append(list, 1<<i)
	}
	return list
}

// numbers has good objects, up to their edge.
func numbers() []uint32 {
	list := []uint32{0, 0x070809, 0xf7f8f9, 1<<24 - 2}
	for i := 0; i < 24; i++ {
		list = append(list, 1<<i)
	}
	return append(list, 1<<24-1)
}

// longNumbers has those that no object has.
func longNumbers() []uint32 {
	list := []uint32{1<<24 + 1, 1<<25 - 1, math.MaxUint32 - 1, math.MaxUint32}
	for i := 24; i < 32; i++ {
		list = append(list, 1<<i)
	}
	return list
}

func someRights() []uint8 { return []uint8{0, 1, 2, 3, 16, 31, 127, 128, 254, 255} }

// goodCaps goes through each part's values beside those of the others.
func goodCaps() []api.Cap {
	list := []api.Cap{
		{},
		{Port: 1, Object: 2, Rights: 3, Check: 4},
		{Port: api.Word, Object: api.Objects - 1, Rights: 255, Check: api.Word},
	}
	for _, w := range words() {
		list = append(list, api.Cap{Port: w}, api.Cap{Check: w},
			api.Cap{Port: w, Object: api.Objects - 1, Rights: 255, Check: api.Word},
			api.Cap{Port: api.Word, Object: api.Objects - 1, Rights: 255, Check: w},
			api.Cap{Port: w, Object: 0x070809, Rights: 10, Check: api.Word - w})
	}
	for _, n := range numbers() {
		list = append(list, api.Cap{Object: n},
			api.Cap{Port: api.Word, Object: n, Rights: 255, Check: api.Word})
	}
	for r := 0; r < 256; r++ {
		list = append(list, api.Cap{Rights: uint8(r)},
			api.Cap{Port: api.Word, Object: api.Objects - 1, Rights: uint8(r), Check: api.Word})
	}
	return list
}

// badCaps goes through what is too great for its part, the other parts good, at their edge, or as bad.
func badCaps() []api.Cap {
	list := []api.Cap{
		{Port: math.MaxUint64, Object: math.MaxUint32, Rights: 255, Check: math.MaxUint64},
		{Port: 1 << 48, Object: 1 << 24, Check: 1 << 48},
	}
	for _, r := range someRights() {
		for _, w := range longWords() {
			list = append(list, api.Cap{Port: w, Rights: r}, api.Cap{Rights: r, Check: w},
				api.Cap{Port: w, Object: api.Objects - 1, Rights: r, Check: api.Word},
				api.Cap{Port: api.Word, Object: api.Objects - 1, Rights: r, Check: w},
				api.Cap{Port: w, Object: 1, Rights: r, Check: w})
		}
		for _, n := range longNumbers() {
			list = append(list, api.Cap{Object: n, Rights: r},
				api.Cap{Port: api.Word, Object: n, Rights: r, Check: api.Word})
		}
	}
	return list
}

// bytesOf works by one great number of 128 bits.
func bytesOf(c api.Cap) []byte {
	whole := new(big.Int).SetUint64(c.Port)
	whole.Lsh(whole, 24).Add(whole, big.NewInt(int64(c.Object)))
	whole.Lsh(whole, 8).Add(whole, big.NewInt(int64(c.Rights)))
	whole.Lsh(whole, 48).Add(whole, new(big.Int).SetUint64(c.Check))
	return whole.FillBytes(make([]byte, 16))
}

// capOf takes that number apart again.
func capOf(b []byte) api.Cap {
	whole := new(big.Int).SetBytes(b)
	cut := func(from, bits uint) uint64 {
		part := new(big.Int).Rsh(whole, from)
		return part.Mod(part, new(big.Int).Lsh(big.NewInt(1), bits)).Uint64()
	}
	return api.Cap{Port: cut(80, 48), Object: uint32(cut(56, 24)), Rights: uint8(cut(48, 8)), Check: cut(0, 48)}
}

func filled(n int) []byte {
	list := make([]byte, n)
	for i := range list {
		list[i] = byte(i*7 + i/256 + 1)
	}
	return list
}

// P3.1
func TestSize(t *testing.T) {
	if Size != 16 {
		t.Error("Size:", Size)
	}
}

// P3.1
func TestMayByHand(t *testing.T) {
	for _, x := range []struct {
		c    api.Cap
		want bool
	}{
		{api.Cap{}, true},
		{api.Cap{Port: 281474976710655}, true},
		{api.Cap{Port: 281474976710656}, false},
		{api.Cap{Port: math.MaxUint64}, false},
		{api.Cap{Check: 281474976710655}, true},
		{api.Cap{Check: 281474976710656}, false},
		{api.Cap{Check: math.MaxUint64}, false},
		{api.Cap{Object: 16777215}, true},
		{api.Cap{Object: 16777216}, false},
		{api.Cap{Object: math.MaxUint32}, false},
		{api.Cap{Rights: 255}, true},
		{api.Cap{Port: 281474976710655, Object: 16777215, Rights: 255, Check: 281474976710655}, true},
		{api.Cap{Port: 281474976710655, Object: 16777215, Rights: 255, Check: 281474976710656}, false},
		{api.Cap{Port: 281474976710655, Object: 16777216, Rights: 255, Check: 281474976710655}, false},
		{api.Cap{Port: 281474976710656, Object: 16777215, Rights: 255, Check: 281474976710655}, false},
		{api.Cap{Port: 281474976710656, Object: 16777216, Rights: 255, Check: 281474976710656}, false},
	} {
		if got := May(x.c); got != x.want {
			t.Errorf("May(%x) = %t", x.c, got)
		}
	}
}

// P3.1
func TestMay(t *testing.T) {
	for _, c := range goodCaps() {
		if !May(c) {
			t.Errorf("May(%x) = false", c)
		}
	}
	for _, c := range badCaps() {
		if May(c) {
			t.Errorf("May(%x) = true", c)
		}
	}
}

// byHand has capabilities and their bytes, written out.
var byHand = []struct {
	c api.Cap
	b string
}{
	{api.Cap{}, strings.Repeat("\x00", 16)},
	{api.Cap{Port: 1, Object: 2, Rights: 3, Check: 4}, "\x00\x00\x00\x00\x00\x01\x00\x00\x02\x03\x00\x00\x00\x00\x00\x04"},
	{api.Cap{Port: 0x010203040506, Object: 0x070809, Rights: 0x0a, Check: 0x0b0c0d0e0f10}, "\x01\x02\x03\x04\x05\x06\x07\x08\x09\x0a\x0b\x0c\x0d\x0e\x0f\x10"},
	{api.Cap{Port: 1<<48 - 1, Object: 1<<24 - 1, Rights: 255, Check: 1<<48 - 1}, strings.Repeat("\xff", 16)},
	{api.Cap{Port: 1<<48 - 1}, "\xff\xff\xff\xff\xff\xff\x00\x00\x00\x00\x00\x00\x00\x00\x00\x00"},
	{api.Cap{Object: 1<<24 - 1}, "\x00\x00\x00\x00\x00\x00\xff\xff\xff\x00\x00\x00\x00\x00\x00\x00"},
	{api.Cap{Rights: 255}, "\x00\x00\x00\x00\x00\x00\x00\x00\x00\xff\x00\x00\x00\x00\x00\x00"},
	{api.Cap{Check: 1<<48 - 1}, "\x00\x00\x00\x00\x00\x00\x00\x00\x00\x00\xff\xff\xff\xff\xff\xff"},
	{api.Cap{Port: 1 << 47, Object: 1 << 23, Rights: 1 << 7, Check: 1 << 47}, "\x80\x00\x00\x00\x00\x00\x80\x00\x00\x80\x80\x00\x00\x00\x00\x00"},
}

// P3.1
func TestEncodeAndDecodeByHand(t *testing.T) {
	for _, x := range byHand {
		if got := Encode(x.c); string(got) != x.b {
			t.Errorf("Encode(%x) = %x, want %x", x.c, got, x.b)
		}
		if got, ok := Decode([]byte(x.b)); got != x.c || !ok {
			t.Errorf("Decode(%x) = %x, %t, want %x", x.b, got, ok, x.c)
		}
	}
}

// P3.1
func TestEncode(t *testing.T) {
	for _, c := range goodCaps() {
		if got := Encode(c); !bytes.Equal(got, bytesOf(c)) {
			t.Errorf("Encode(%x) = %x, want %x", c, got, bytesOf(c))
		}
	}
	for _, c := range badCaps() {
		if got := Encode(c); len(got) != 0 {
			t.Errorf("Encode(%x) = %x, want nothing", c, got)
		}
	}
}

// P3.1: each byte goes to one part alone, and each bit counts.
func TestDecode(t *testing.T) {
	list := [][]byte{make([]byte, 16), bytes.Repeat([]byte{255}, 16), filled(16), filled(100)[61:77]}
	for bit := 0; bit < 128; bit++ {
		b := make([]byte, 16)
		b[bit/8] = 1 << (bit % 8)
		list = append(list, b)
	}
	for _, b := range list {
		got, ok := Decode(b)
		if got != capOf(b) || !ok {
			t.Errorf("Decode(%x) = %x, %t, want %x", b, got, ok, capOf(b))
		}
		if !May(got) || !bytes.Equal(Encode(got), b) {
			t.Errorf("Encode of Decode(%x) = %x", b, Encode(got))
		}
	}
}

// P3.1
func TestDecodeOfEncode(t *testing.T) {
	for _, c := range goodCaps() {
		if got, ok := Decode(Encode(c)); got != c || !ok {
			t.Errorf("Decode of Encode(%x) = %x, %t", c, got, ok)
		}
	}
	for _, c := range badCaps() {
		if got, ok := Decode(Encode(c)); got != (api.Cap{}) || ok {
			t.Errorf("Decode of Encode(%x) = %x, %t", c, got, ok)
		}
	}
}

// P3.1: a length that is not 16, whatever the room behind it.
func TestDecodeOfWrongLengths(t *testing.T) {
	for n := 0; n <= 300; n++ {
		if n == 16 {
			continue
		}
		for _, b := range [][]byte{filled(n), filled(n + 16)[:n], make([]byte, n)} {
			if got, ok := Decode(b); got != (api.Cap{}) || ok {
				t.Errorf("Decode(%d bytes) = %x, %t", n, got, ok)
			}
		}
	}
	if got, ok := Decode(nil); got != (api.Cap{}) || ok {
		t.Errorf("Decode(nil) = %x, %t", got, ok)
	}
	if got, ok := Decode(filled(40)[:16]); got != capOf(filled(16)) || !ok {
		t.Errorf("Decode(16 bytes with room behind) = %x, %t", got, ok)
	}
}

// P3.2
func TestHasByHand(t *testing.T) {
	for _, x := range []struct {
		rights, w uint8
		want      bool
	}{
		{0, 0, true},
		{0, 1, false},
		{0, 255, false},
		{255, 0, true},
		{255, 128, true},
		{255, 255, true},
		{254, 255, false},
		{254, 1, false},
		{api.Read | api.Write, api.Read, true},
		{api.Read | api.Write, api.Write, true},
		{api.Read | api.Write, api.Read | api.Write, true},
		{api.Read, api.Read | api.Write, false},
		{api.Read, api.Write, false},
		{api.Delete, api.Read, false},
		{10, 2, true},
		{10, 3, false},
	} {
		if got := Has(api.Cap{Rights: x.rights}, x.w); got != x.want {
			t.Errorf("Has(rights %d, %d) = %t", x.rights, x.w, got)
		}
	}
}

func eachBitIn(w, rights uint8) bool {
	for bit := 0; bit < 8; bit++ {
		if w>>bit%2 == 1 && rights>>bit%2 == 0 {
			return false
		}
	}
	return true
}

// P3.2: the rights alone count, even of a capability that may not be.
func TestHas(t *testing.T) {
	for r := 0; r < 256; r++ {
		for w := 0; w < 256; w++ {
			want := eachBitIn(uint8(w), uint8(r))
			for _, c := range []api.Cap{{}, {Port: 1, Object: 2, Check: 4}, {Port: math.MaxUint64, Object: math.MaxUint32, Check: math.MaxUint64}} {
				c.Rights = uint8(r)
				if got := Has(c, uint8(w)); got != want {
					t.Errorf("Has(%x, %d) = %t", c, w, got)
				}
			}
		}
	}
}

// P3.2
func TestOwns(t *testing.T) {
	for r := 0; r < 256; r++ {
		for _, c := range []api.Cap{{}, {Port: 1, Object: 2, Check: 4}, {Port: math.MaxUint64, Object: math.MaxUint32, Check: math.MaxUint64}} {
			c.Rights = uint8(r)
			if got := Owns(c); got != (r == 255) {
				t.Errorf("Owns(%x) = %t", c, got)
			}
		}
	}
}

// P3.2
func TestRowByHand(t *testing.T) {
	one, two, three := byHand[1], byHand[2], byHand[3]
	if got, ok := Row(); len(got) != 0 || !ok {
		t.Errorf("Row() = %x, %t", got, ok)
	}
	if got, ok := Row([]api.Cap{}...); len(got) != 0 || !ok {
		t.Errorf("Row of an empty list = %x, %t", got, ok)
	}
	if got, ok := Row([]api.Cap(nil)...); len(got) != 0 || !ok {
		t.Errorf("Row of a nil list = %x, %t", got, ok)
	}
	if got, ok := Row(one.c); string(got) != one.b || !ok {
		t.Errorf("Row of one = %x, %t", got, ok)
	}
	if got, ok := Row(one.c, two.c); string(got) != one.b+two.b || !ok {
		t.Errorf("Row of two = %x, %t", got, ok)
	}
	if got, ok := Row(two.c, one.c, one.c, three.c); string(got) != two.b+one.b+one.b+three.b || !ok {
		t.Errorf("Row of four = %x, %t", got, ok)
	}
	if got, ok := Row(api.Cap{}, api.Cap{}); string(got) != strings.Repeat("\x00", 32) || !ok {
		t.Errorf("Row of two zero ones = %x, %t", got, ok)
	}
}

// P3.2: the first so many, for each number of them.
func TestRow(t *testing.T) {
	cs := goodCaps()
	var want []byte
	for n := 0; n <= len(cs); n++ {
		if got, ok := Row(cs[:n]...); !bytes.Equal(got, want) || !ok {
			t.Fatalf("Row of %d: %x, %t, want %x", n, got, ok, want)
		}
		if n < len(cs) {
			want = append(want, bytesOf(cs[n])...)
		}
	}
}

// P3.2: one that may not be, alone and at each place among others.
func TestRowOfWhatMayNotBe(t *testing.T) {
	for _, bad := range badCaps() {
		for n := 0; n <= 4; n++ {
			for at := 0; at <= n; at++ {
				cs := slices.Insert(slices.Clone(goodCaps()[:n]), at, bad)
				if got, ok := Row(cs...); len(got) != 0 || ok {
					t.Fatalf("Row(%x) = %x, %t", cs, got, ok)
				}
			}
		}
		if got, ok := Row(bad, bad); len(got) != 0 || ok {
			t.Fatalf("Row(%x twice) = %x, %t", bad, got, ok)
		}
	}
}

// P3.2
func TestRowsByHand(t *testing.T) {
	one, two, three := byHand[1], byHand[2], byHand[3]
	for _, x := range []struct {
		b    string
		want []api.Cap
		ok   bool
	}{
		{"", nil, true},
		{one.b, []api.Cap{one.c}, true},
		{one.b + two.b, []api.Cap{one.c, two.c}, true},
		{two.b + one.b + one.b + three.b, []api.Cap{two.c, one.c, one.c, three.c}, true},
		{strings.Repeat("\x00", 32), []api.Cap{{}, {}}, true},
		{one.b[:15], nil, false},
		{one.b[:1], nil, false},
		{one.b + "\x00", nil, false},
		{one.b + two.b[:15], nil, false},
		{one.b + two.b[:8], nil, false},
		{one.b + two.b + three.b[:4], nil, false},
		{one.b + two.b + "\x00", nil, false},
	} {
		if got, ok := Rows([]byte(x.b)); !slices.Equal(got, x.want) || ok != x.ok {
			t.Errorf("Rows(%x) = %x, %t, want %x, %t", x.b, got, ok, x.want, x.ok)
		}
	}
	if got, ok := Rows(nil); len(got) != 0 || !ok {
		t.Errorf("Rows(nil) = %x, %t", got, ok)
	}
}

// P3.2: each length; the room behind it does not count.
func TestRows(t *testing.T) {
	for n := 0; n <= 400; n++ {
		var want []api.Cap
		for at := 0; n%16 == 0 && at < n; at += 16 {
			want = append(want, capOf(filled(n)[at:at+16]))
		}
		for _, b := range [][]byte{filled(n), filled(n + 40)[:n]} {
			if got, ok := Rows(b); !slices.Equal(got, want) || ok != (n%16 == 0) {
				t.Fatalf("Rows(%d bytes) = %x, %t, want %x", n, got, ok, want)
			}
		}
	}
}

// P3.2
func TestRowsOfRow(t *testing.T) {
	cs := goodCaps()
	for n := 0; n <= len(cs); n++ {
		b, _ := Row(cs[:n]...)
		if got, ok := Rows(b); !slices.Equal(got, cs[:n]) || !ok {
			t.Fatalf("Rows of Row of %d: %x, %t", n, got, ok)
		}
	}
}

// P3.2 and W1: so great a row would hardly end, if each capability were laid behind a copy of all ahead of it.
func TestGreatRow(t *testing.T) {
	cs := make([]api.Cap, 1<<18)
	for i := range cs {
		cs[i] = api.Cap{Port: uint64(i) << 20, Object: uint32(i), Rights: uint8(i), Check: api.Word - uint64(i)}
	}
	b, ok := Row(cs...)
	if len(b) != len(cs)*16 || !ok {
		t.Fatal("Row:", len(b), ok)
	}
	if got, ok := Rows(b); !slices.Equal(got, cs) || !ok {
		t.Fatal("Rows:", len(got), ok)
	}
	if got, ok := Rows(b[:len(b)-1]); len(got) != 0 || ok {
		t.Fatal("Rows of a cut one:", len(got), ok)
	}
	cs[len(cs)-1].Check = api.Word + 1
	if got, ok := Row(cs...); len(got) != 0 || ok {
		t.Fatal("Row with a bad last one:", len(got), ok)
	}
}

// spoil overwrites a list up to its capacity.
func spoil[T any](list []T, with T) {
	list = list[:cap(list)]
	for i := range list {
		list[i] = with
	}
}

// W6
func TestWhatIsHandedInStays(t *testing.T) {
	for _, n := range []int{0, 1, 15, 16, 17, 32, 33, 48} {
		room := filled(n + 20)
		Decode(room[:n])
		Rows(room[:n])
		if !bytes.Equal(room, filled(n+20)) {
			t.Errorf("%d bytes are changed: %x", n, room)
		}
	}
	for _, last := range []api.Cap{{Port: 9}, {Port: 1 << 48}} {
		room := []api.Cap{byHand[1].c, byHand[2].c, last, byHand[3].c, byHand[4].c}
		was := slices.Clone(room)
		for n := 0; n <= 3; n++ {
			Row(room[:n]...)
		}
		if !slices.Equal(room, was) {
			t.Errorf("capabilities are changed: %x", room)
		}
	}
}

// W6
func TestAnswersAreNewMemory(t *testing.T) {
	one, two := byHand[1], byHand[2]
	spoil(Encode(one.c), 0xee)
	if got := Encode(one.c); string(got) != one.b {
		t.Errorf("Encode after its answer was overwritten: %x", got)
	}
	given := []api.Cap{one.c, two.c}
	b, _ := Row(given...)
	spoil(given, api.Cap{Port: 7})
	if string(b) != one.b+two.b {
		t.Errorf("Row keeps what was handed in: %x", b)
	}
	whole := []byte(one.b + two.b + one.b)
	cs, _ := Rows(whole[:32])
	again, _ := Rows(whole[:32])
	spoil(cs, api.Cap{Port: 7})
	if string(whole) != one.b+two.b+one.b || !slices.Equal(again, []api.Cap{one.c, two.c}) {
		t.Errorf("Rows shares memory: %x, %x", whole, again)
	}
	other, _ := Row(one.c, two.c)
	spoil(b, 0xee)
	if string(other) != one.b+two.b {
		t.Errorf("two answers of Row share memory: %x", other)
	}
	none, _ := Row()
	spoil(none, 0xee)
	if got, ok := Row(one.c); string(got) != one.b || !ok {
		t.Errorf("Row after an empty answer was overwritten: %x, %t", got, ok)
	}
}
