package codec

import (
	"bytes"
	"encoding/binary"
	"math"
	"math/big"
	"strconv"
	"strings"
	"testing"
)

// numbers has the edges of each width, the single bits, and numbers spread between them.
func numbers() []uint64 {
	list := []uint64{0, 258, 0x10203, 0x0102030405060708, 0x8899aabbccddeeff, math.MaxUint64}
	for i := 0; i < 64; i++ {
		list = append(list, 1<<i, 1<<i-1)
	}
	x := uint64(0x0123456789abcdef)
	for i := 0; i < 30; i++ {
		x = x*6364136223846793005 + 1442695040888963407
		list = append(list, x)
	}
	return list
}

// widths has all that are good, and wrong ones about them.
func widths() []int {
	list := []int{math.MinInt, math.MinInt + 1, math.MinInt32, -256, math.MaxInt32, math.MaxInt - 1, math.MaxInt, 256, 1 << 32, 1<<32 + 1}
	for n := -9; n <= 20; n++ {
		list = append(list, n)
	}
	return list
}

func isGood(n int) bool { return n >= 1 && n <= 8 }

// lastBytes works by great numbers: what is left of v by 256^n, in n bytes.
func lastBytes(v uint64, n int) []byte {
	whole := new(big.Int).SetUint64(v)
	rest := whole.Mod(whole, new(big.Int).Lsh(big.NewInt(1), uint(8*n)))
	return rest.FillBytes(make([]byte, n))
}

func filled(n int) []byte {
	list := make([]byte, n)
	for i := range list {
		list[i] = byte(i*7 + i/256 + 1)
	}
	return list
}

// P2.1
func TestPutByHand(t *testing.T) {
	for _, x := range []struct {
		b    string
		v    uint64
		n    int
		want string
	}{
		{"", 258, 2, "\x01\x02"},
		{"", 0, 1, "\x00"},
		{"", 255, 1, "\xff"},
		{"", 256, 1, "\x00"},
		{"", 0x10203, 2, "\x02\x03"},
		{"\x09", 0x10203, 2, "\x09\x02\x03"},
		{"\x09", 0x10203, 4, "\x09\x00\x01\x02\x03"},
		{"ab", 0x0102030405060708, 8, "ab\x01\x02\x03\x04\x05\x06\x07\x08"},
		{"ab", 0x0102030405060708, 7, "ab\x02\x03\x04\x05\x06\x07\x08"},
		{"ab", 0x0102030405060708, 1, "ab\x08"},
		{"", math.MaxUint64, 8, strings.Repeat("\xff", 8)},
		{"", 1 << 63, 8, "\x80\x00\x00\x00\x00\x00\x00\x00"},
		{"\x09", 1, 0, "\x09"},
		{"\x09", 1, -1, "\x09"},
		{"\x09", 1, 9, "\x09"},
		{"\x09", 1, math.MinInt, "\x09"},
		{"\x09", 1, math.MaxInt, "\x09"},
		{"", 1, 9, ""},
		{"", 1, 0, ""},
	} {
		if got := Put([]byte(x.b), x.v, x.n); string(got) != x.want {
			t.Errorf("Put(%x, %x, %d) = %x, want %x", x.b, x.v, x.n, got, x.want)
		}
	}
	if got := Put(nil, 7, 1); string(got) != "\x07" {
		t.Error("Put behind nil:", got)
	}
	if got := Put(nil, 7, 9); len(got) != 0 {
		t.Error("Put of 9 bytes behind nil:", got)
	}
}

// P2.1
func TestPut(t *testing.T) {
	for _, b := range [][]byte{nil, {}, {9}, filled(300)} {
		for _, v := range numbers() {
			for _, n := range widths() {
				want := bytes.Clone(b)
				if isGood(n) {
					want = append(want, lastBytes(v, n)...)
				}
				if got := Put(b, v, n); !bytes.Equal(got, want) {
					t.Fatalf("Put(%d bytes, %x, %d) = %x, want %x", len(b), v, n, got, want)
				}
			}
		}
	}
}

// P2.1
func TestGetByHand(t *testing.T) {
	for _, x := range []struct {
		b     string
		at, n int
		want  uint64
		ok    bool
	}{
		{"\x01\x02\x03", 1, 2, 515, true},
		{"\x01\x02\x03", 0, 1, 1, true},
		{"\x01\x02\x03", 2, 1, 3, true},
		{"\x01\x02\x03", 0, 3, 66051, true},
		{"\x01\x02\x03\x04\x05\x06\x07\x08", 0, 8, 0x0102030405060708, true},
		{"\xff\x02\x03\x04\x05\x06\x07\x08\x09", 1, 8, 0x0203040506070809, true},
		{"\xff\xff\xff\xff\xff\xff\xff\xff\xff", 0, 8, math.MaxUint64, true},
		{"\xff\xff\xff\xff\xff\xff\xff\xff\xff", 1, 8, math.MaxUint64, true},
		{"\x00\x00", 0, 2, 0, true},
		{"\x01\x02\x03", 2, 2, 0, false},
		{"\x01\x02\x03", 3, 1, 0, false},
		{"\x01\x02\x03", 4, 1, 0, false},
		{"\x01\x02\x03", -1, 1, 0, false},
		{"\x01\x02\x03", -1, 2, 0, false},
		{"\x01\x02\x03", 0, 0, 0, false},
		{"\x01\x02\x03", 3, 0, 0, false},
		{"\x01\x02\x03", 0, -1, 0, false},
		{"\x01\x02\x03", 2, -1, 0, false},
		{"\x01\x02\x03\x04\x05\x06\x07\x08\x09", 0, 9, 0, false},
		{"\xff\x02\x03\x04\x05\x06\x07\x08\x09", 2, 8, 0, false},
		{"\x01\x02\x03", math.MaxInt, 8, 0, false},
		{"\x01\x02\x03", math.MaxInt - 1, 2, 0, false},
		{"\x01\x02\x03", math.MinInt, 1, 0, false},
		{"\x01\x02\x03", 1, math.MaxInt, 0, false},
		{"\x01\x02\x03", 1, math.MinInt, 0, false},
		{"", 0, 1, 0, false},
		{"", 0, 0, 0, false},
	} {
		if got, ok := Get([]byte(x.b), x.at, x.n); got != x.want || ok != x.ok {
			t.Errorf("Get(%x, %d, %d) = %x, %t, want %x, %t", x.b, x.at, x.n, got, ok, x.want, x.ok)
		}
	}
	if got, ok := Get(nil, 0, 1); got != 0 || ok {
		t.Error("Get of nil:", got, ok)
	}
}

// places has those about the length of a list, and the ends of the ints.
func places(length int) []int {
	list := []int{math.MinInt, math.MinInt + 1, math.MinInt + 8, math.MaxInt - 8, math.MaxInt - 1, math.MaxInt, 1 << 32}
	for at := -10; at <= length+10; at++ {
		list = append(list, at)
	}
	return list
}

// isThere counts upwards, one byte at a time, so that no sum goes round.
func isThere(length, at, n int) bool {
	if at < 0 || at > length {
		return false
	}
	for ; n > 0; n-- {
		if at == length {
			return false
		}
		at++
	}
	return true
}

// P2.1
func TestGet(t *testing.T) {
	for length := 0; length <= 20; length++ {
		b := filled(length)
		for _, at := range places(length) {
			for _, n := range widths() {
				want, wantOK := uint64(0), isGood(n) && isThere(length, at, n)
				if wantOK {
					wide := make([]byte, 8)
					copy(wide[8-n:], b[at:at+n])
					want = binary.BigEndian.Uint64(wide)
				}
				if got, ok := Get(b, at, n); got != want || ok != wantOK {
					t.Fatalf("Get(%d bytes, %d, %d) = %x, %t, want %x, %t", length, at, n, got, ok, want, wantOK)
				}
			}
		}
	}
}

// P2.1
func TestGetOfPut(t *testing.T) {
	for _, v := range numbers() {
		for n := 1; n <= 8; n++ {
			b := Put(Put([]byte("ab"), v, n), ^v, 8)
			want := v
			if n < 8 {
				want &= 1<<(8*n) - 1
			}
			if got, ok := Get(b, 2, n); got != want || !ok {
				t.Fatalf("Get of Put(%x, %d) = %x, %t", v, n, got, ok)
			}
		}
	}
}

// P2.1: only the length counts, not the room behind it.
func TestGetSeesNoRoomBehind(t *testing.T) {
	b := filled(20)[:3]
	if got, ok := Get(b, 2, 2); got != 0 || ok {
		t.Error("Get beyond the length:", got, ok)
	}
	if got, ok := Get(b, 3, 1); got != 0 || ok {
		t.Error("Get at the length:", got, ok)
	}
}

// P2.2
func TestPutBytesByHand(t *testing.T) {
	for _, x := range []struct{ b, s, want string }{
		{"", "ab", "\x00\x02\x61\x62"},
		{"", "", "\x00\x00"},
		{"\x07", "ab", "\x07\x00\x02ab"},
		{"\x07", "", "\x07\x00\x00"},
		{"xyz", strings.Repeat("q", 255), "xyz\x00\xff" + strings.Repeat("q", 255)},
		{"xyz", strings.Repeat("q", 256), "xyz\x01\x00" + strings.Repeat("q", 256)},
		{"", strings.Repeat("q", 65534), "\xff\xfe" + strings.Repeat("q", 65534)},
		{"x", strings.Repeat("q", 65535), "x\xff\xff" + strings.Repeat("q", 65535)},
	} {
		if got, ok := PutBytes([]byte(x.b), []byte(x.s)); string(got) != x.want || !ok {
			t.Errorf("PutBytes(%x, %d bytes): %d bytes, %t", x.b, len(x.s), len(got), ok)
		}
	}
	if got, ok := PutBytes(nil, nil); string(got) != "\x00\x00" || !ok {
		t.Error("PutBytes of nil behind nil:", got, ok)
	}
}

// P2.2: only s is bounded, not what it stands behind.
func TestPutBytesOfTooMany(t *testing.T) {
	for _, n := range []int{65536, 65537, 65538, 1 << 17, 1<<17 + 2, 1 << 20} {
		for _, b := range [][]byte{nil, {7}} {
			if got, ok := PutBytes(b, make([]byte, n)); len(got) != 0 || ok {
				t.Errorf("PutBytes of %d bytes: %d bytes, %t", n, len(got), ok)
			}
		}
	}
	long := filled(70000)
	if got, ok := PutBytes(long, []byte("ab")); string(got) != string(long)+"\x00\x02ab" || !ok {
		t.Error("PutBytes behind 70000 bytes:", len(got), ok)
	}
}

// P2.2
func TestGetBytesByHand(t *testing.T) {
	long := "\xff\xff" + strings.Repeat("q", 65535)
	for i, x := range []struct {
		b    string
		at   int
		want string
		end  int
		ok   bool
	}{
		{"\x00\x02ab", 0, "ab", 4, true},
		{"\x00\x02abc", 0, "ab", 4, true},
		{"\x07\x00\x02ab", 1, "ab", 5, true},
		{"\x07\x00\x02ab\x00\x00", 5, "", 7, true},
		{"\x00\x00", 0, "", 2, true},
		{"\x00\x00\x00", 1, "", 3, true},
		{long, 0, long[2:], 65537, true},
		{"ab" + long + "c", 2, long[2:], 65539, true},
		{long[:65536], 0, "", 0, false},
		{"\x01\x00" + long[2:258], 0, long[2:258], 258, true},
		{"\x01\x00" + long[2:257], 0, "", 0, false},
		{"\x00\x02a", 0, "", 0, false},
		{"\x00\x02", 0, "", 0, false},
		{"\x00\x01", 0, "", 0, false},
		{"\x00", 0, "", 0, false},
		{"", 0, "", 0, false},
		{"\x00\x02ab", 1, "", 0, false},
		{"\x00\x02ab", 3, "", 0, false},
		{"\x00\x02ab", 4, "", 0, false},
		{"\x00\x02ab", 5, "", 0, false},
		{"\x00\x02ab", -1, "", 0, false},
		{"\x00\x00\x00\x00", 3, "", 0, false},
		{"\x00\x00\x00\x00", 4, "", 0, false},
		{"\x00\x02ab", math.MinInt, "", 0, false},
		{"\x00\x02ab", math.MaxInt, "", 0, false},
		{"\x00\x02ab", math.MaxInt - 1, "", 0, false},
	} {
		got, end, ok := GetBytes([]byte(x.b), x.at)
		if string(got) != x.want || end != x.end || ok != x.ok {
			t.Errorf("%d: GetBytes at %d: %d bytes, %d, %t, want %d, %d, %t", i, x.at, len(got), end, ok, len(x.want), x.end, x.ok)
		}
	}
	if got, end, ok := GetBytes(nil, 0); len(got) != 0 || end != 0 || ok {
		t.Error("GetBytes of nil:", got, end, ok)
	}
}

// P2.2: every cut of a list of bytes with their lengths.
func TestGetBytesOfCuts(t *testing.T) {
	texts := []string{"", "a", "pen", strings.Repeat("long", 70), ""}
	var b []byte
	for _, s := range texts {
		b, _ = PutBytes(b, []byte(s))
	}
	for cut := 0; cut <= len(b); cut++ {
		at := 0
		for _, s := range texts {
			got, end, ok := GetBytes(b[:cut], at)
			if at+2+len(s) > cut {
				if len(got) != 0 || end != 0 || ok {
					t.Fatalf("cut at %d, at %d: %x, %d, %t", cut, at, got, end, ok)
				}
				break
			}
			if string(got) != s || end != at+2+len(s) || !ok {
				t.Fatalf("cut at %d, at %d: %x, %d, %t", cut, at, got, end, ok)
			}
			at = end
		}
	}
}

// P2.3
func TestSkipByHand(t *testing.T) {
	for _, x := range []struct {
		length, at int
		sizes      []int
		want       int
		ok         bool
	}{
		{4, 1, []int{1, 2}, 4, true},
		{4, 0, []int{4}, 4, true},
		{4, 0, []int{1, 1, 1, 1}, 4, true},
		{4, 0, []int{1, 0, 1}, 2, true},
		{4, 0, nil, 0, true},
		{4, 4, nil, 4, true},
		{4, 4, []int{}, 4, true},
		{4, 4, []int{0, 0, 0}, 4, true},
		{0, 0, nil, 0, true},
		{0, 0, []int{0}, 0, true},
		{4, 1, []int{2, 2}, 0, false},
		{4, 1, []int{4}, 0, false},
		{4, 4, []int{1}, 0, false},
		{4, 4, []int{0, 1}, 0, false},
		{4, 5, nil, 0, false},
		{4, 5, []int{0}, 0, false},
		{4, 5, []int{-1}, 0, false},
		{4, -1, nil, 0, false},
		{4, -1, []int{1}, 0, false},
		{4, -1, []int{2, 1}, 0, false},
		{4, 2, []int{-1}, 0, false},
		{4, 2, []int{1, -1}, 0, false},
		{4, 2, []int{-1, 1}, 0, false},
		{4, 2, []int{3, -3}, 0, false},
		{0, 0, []int{1}, 0, false},
		{0, 1, nil, 0, false},
		{0, -1, nil, 0, false},
		{4, math.MinInt, nil, 0, false},
		{4, math.MaxInt, nil, 0, false},
		{4, math.MaxInt, []int{1}, 0, false},
		{4, math.MinInt, []int{math.MinInt}, 0, false},
		{4, 1, []int{math.MaxInt}, 0, false},
		{4, 1, []int{math.MinInt}, 0, false},
		{4, 1, []int{math.MaxInt, math.MaxInt, 2}, 0, false},
		{4, 1, []int{1, math.MaxInt, math.MaxInt, 2}, 0, false},
	} {
		if got, ok := Skip(make([]byte, x.length), x.at, x.sizes...); got != x.want || ok != x.ok {
			t.Errorf("Skip(%d bytes, %d, %d) = %d, %t, want %d, %t", x.length, x.at, x.sizes, got, ok, x.want, x.ok)
		}
	}
	if at, ok := Skip(nil, 0); at != 0 || !ok {
		t.Error("Skip of nil:", at, ok)
	}
	if at, ok := Skip(nil, 0, 1); at != 0 || ok {
		t.Error("Skip of nil, 1:", at, ok)
	}
}

// skipped works by great numbers, where no sum goes round.
func skipped(length, at int, sizes []int) (int, bool) {
	end, place := big.NewInt(int64(length)), big.NewInt(int64(at))
	good := place.Sign() >= 0 && place.Cmp(end) <= 0
	for _, size := range sizes {
		place.Add(place, big.NewInt(int64(size)))
		good = good && size >= 0 && place.Cmp(end) <= 0
	}
	if !good {
		return 0, false
	}
	return int(place.Int64()), true
}

// P2.3
func TestSkip(t *testing.T) {
	steps := []int{math.MinInt, math.MaxInt, -1, 0, 1, 2, 3, 5}
	for length := 0; length <= 6; length++ {
		b := make([]byte, length, length+4)
		for _, at := range places(length) {
			for code := 0; code < 8*8*8*8; code++ {
				sizes := []int{steps[code%8], steps[code/8%8], steps[code/64%8], steps[code/512]}[:code%5]
				want, wantOK := skipped(length, at, sizes)
				if got, ok := Skip(b, at, sizes...); got != want || ok != wantOK {
					t.Fatalf("Skip(%d bytes, %d, %d) = %d, %t, want %d, %t", length, at, sizes, got, ok, want, wantOK)
				}
			}
		}
	}
}

// P2.3: as many sizes as one likes.
func TestSkipOfMany(t *testing.T) {
	sizes := make([]int, 5000)
	for i := range sizes {
		sizes[i] = i % 3
	}
	b := make([]byte, 5010)
	if at, ok := Skip(b, 10, sizes...); at != 10+4999 || !ok {
		t.Error("Skip of 5000 sizes:", at, ok)
	}
	if at, ok := Skip(b[:5008], 10, sizes...); at != 0 || ok {
		t.Error("Skip of 5000 sizes, a byte too few:", at, ok)
	}
}

// roomy has a length and room behind it that is filled with a mark.
func roomy(text string) []byte {
	list := append([]byte(text), strings.Repeat("#", 40)...)
	return list[:len(text)]
}

// isWhole tells whether neither a roomy list nor its room has changed.
func isWhole(list []byte, text string) bool {
	return string(list[:len(text)+40]) == text+strings.Repeat("#", 40)
}

// overwrite goes to the end of the room, too: memory is shared there as well.
func overwrite(list []byte) {
	list = list[:cap(list)]
	for i := range list {
		list[i] = '!'
	}
}

// W6 for Put, also where n is wrong.
func TestPutSharesNothing(t *testing.T) {
	for _, n := range []int{1, 2, 8, 0, -1, 9} {
		for _, text := range []string{"", "a", "ab", "abcdefgh"} {
			b := roomy(text)
			first := Put(b, 0x2a2a2a2a2a2a2a2a, n)
			second := Put(b, 0x2b2b2b2b2b2b2b2b, n)
			want := string(second)
			if !isWhole(b, text) {
				t.Errorf("Put(%q, n %d) changed what was handed in", text, n)
			}
			overwrite(first)
			if !isWhole(b, text) || string(second) != want {
				t.Errorf("Put(%q, n %d): the answer shares memory", text, n)
			}
			overwrite(b)
			if string(second) != want {
				t.Errorf("Put(%q, n %d) kept what was handed in", text, n)
			}
		}
	}
}

// W6 for PutBytes.
func TestPutBytesSharesNothing(t *testing.T) {
	for _, text := range []string{"", "a", "abcdefgh"} {
		for _, laid := range []string{"", "s", "stuvwxyz"} {
			b, s := roomy(text), roomy(laid)
			first, _ := PutBytes(b, s)
			second, _ := PutBytes(b, s)
			want := string(second)
			overwrite(first)
			if !isWhole(b, text) || !isWhole(s, laid) || string(second) != want {
				t.Errorf("PutBytes(%q, %q): the answer shares memory", text, laid)
			}
			overwrite(b)
			overwrite(s)
			if string(second) != want {
				t.Errorf("PutBytes(%q, %q) kept what was handed in", text, laid)
			}
		}
	}
}

// W6 for PutBytes, where both are one list, or one lies behind the other.
func TestPutBytesOfOneList(t *testing.T) {
	b := roomy("abc")
	if got, ok := PutBytes(b, b); string(got) != "abc\x00\x03abc" || !ok || !isWhole(b, "abc") {
		t.Errorf("PutBytes of one list twice: %q, %t", got, ok)
	}
	if got, ok := PutBytes(b[:1], b[1:]); string(got) != "a\x00\x02bc" || !ok || !isWhole(b, "abc") {
		t.Errorf("PutBytes of a list's two parts: %q, %t", got, ok)
	}
}

// W6 for PutBytes of too many.
func TestPutBytesOfTooManyChangesNothing(t *testing.T) {
	b := roomy("abc")
	if got, ok := PutBytes(b, make([]byte, 65536)); len(got) != 0 || ok || !isWhole(b, "abc") {
		t.Error("PutBytes of too many:", len(got), ok)
	}
}

// W6 for GetBytes.
func TestGetBytesSharesNothing(t *testing.T) {
	for _, x := range []struct {
		text string
		at   int
		want string
	}{{"\x00\x02abc", 0, "ab"}, {"\x07\x00\x03abc", 1, "abc"}, {"\x00\x00abc", 0, ""}, {"\x00\x00", 0, ""}} {
		b := roomy(x.text)
		first, _, _ := GetBytes(b, x.at)
		second, _, _ := GetBytes(b, x.at)
		_ = append(first, "????"...)
		overwrite(first)
		if !isWhole(b, x.text) || string(second) != x.want {
			t.Errorf("GetBytes(%q): the answer shares memory", x.text)
		}
		overwrite(b)
		if string(second) != x.want {
			t.Errorf("GetBytes(%q) kept what was handed in", x.text)
		}
	}
}

// W6 for Get and Skip: neither the bytes nor the sizes change.
func TestGetAndSkipChangeNothing(t *testing.T) {
	b, sizes := roomy("abcdefgh"), []int{1, 2, 3}
	for at := -1; at <= 9; at++ {
		for n := -1; n <= 9; n++ {
			Get(b, at, n)
		}
		Skip(b, at, sizes...)
	}
	if !isWhole(b, "abcdefgh") {
		t.Error("Get or Skip changed the bytes")
	}
	if sizes[0] != 1 || sizes[1] != 2 || sizes[2] != 3 {
		t.Error("Skip changed the sizes:", sizes)
	}
}

// W2: the same again, whatever was called between.
func TestAnswersHangOnInputsAlone(t *testing.T) {
	for i := 0; i < 3; i++ {
		got, _ := PutBytes(Put(nil, 1<<40+7, 6), []byte(strconv.Itoa(7)))
		if string(got) != "\x01\x00\x00\x00\x00\x07\x00\x017" {
			t.Errorf("%x", got)
		}
	}
}
