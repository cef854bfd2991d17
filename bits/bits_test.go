package bits

import (
	"fmt"
	"math"
	"math/big"
	"strings"
	"testing"
)

const word = uint64(1<<48 - 1)

// samples has the edges of words, of 64 bits, and numbers spread between them.
func samples() []uint64 {
	list := []uint64{0, 1, 2, 3, 255, word - 1, word, word + 1, word + 2, math.MaxUint64 - 1, math.MaxUint64}
	for i := 0; i < 64; i++ {
		list = append(list, 1<<i)
	}
	x := uint64(0x0123456789abcdef)
	for i := 0; i < 40; i++ {
		x = x*6364136223846793005 + 1442695040888963407
		list = append(list, x)
	}
	return list
}

// cutBig is a great number's rest by 2^48: the meaning of 'cut' without wrap-round.
func cutBig(x *big.Int) uint64 {
	return new(big.Int).Mod(x, new(big.Int).Lsh(big.NewInt(1), 48)).Uint64()
}

func great(x uint64) *big.Int { return new(big.Int).SetUint64(x) }

// P1.1
func TestCut(t *testing.T) {
	for _, x := range samples() {
		if got, want := Cut(x), cutBig(great(x)); got != want {
			t.Errorf("Cut(%x) = %x, want %x", x, got, want)
		}
	}
	if Cut(1<<48) != 0 || Cut(1<<48+5) != 5 || Cut(word) != word || Cut(math.MaxUint64) != word {
		t.Error("the edges of Cut")
	}
}

// P1.1
func TestAddAndMul(t *testing.T) {
	for _, a := range samples() {
		for _, b := range samples() {
			if got, want := Add(a, b), cutBig(new(big.Int).Add(great(a), great(b))); got != want {
				t.Fatalf("Add(%x, %x) = %x, want %x", a, b, got, want)
			}
			if got, want := Mul(a, b), cutBig(new(big.Int).Mul(great(a), great(b))); got != want {
				t.Fatalf("Mul(%x, %x) = %x, want %x", a, b, got, want)
			}
		}
	}
	if Add(word, 1) != 0 || Add(2, 3) != 5 || Add(math.MaxUint64, 1) != 0 {
		t.Error("the edges of Add")
	}
	if Mul(1<<24, 1<<24) != 0 || Mul(3, 5) != 15 || Mul(word, word) != 1 {
		t.Error("the edges of Mul")
	}
}

// turned moves each bit by itself.
func turned(a uint64, n int) uint64 {
	answer := uint64(0)
	for i := 0; i < 48; i++ {
		to := ((i+n%48)%48 + 48) % 48
		answer |= a >> i & 1 << to
	}
	return answer
}

// P1.1
func TestTurn(t *testing.T) {
	turns := []int{math.MinInt, math.MinInt + 1, math.MaxInt - 1, math.MaxInt, 1000003, -1000003}
	for n := -150; n <= 150; n++ {
		turns = append(turns, n)
	}
	for _, a := range samples() {
		for _, n := range turns {
			if got, want := Turn(a, n), turned(a, n); got != want {
				t.Fatalf("Turn(%x, %d) = %x, want %x", a, n, got, want)
			}
		}
	}
}

// P1.1
func TestTurnByHand(t *testing.T) {
	for _, x := range []struct {
		a    uint64
		n    int
		want uint64
	}{
		{1, -1, 0x800000000000},
		{1, 49, 2},
		{1, 0, 1},
		{1, 47, 1 << 47},
		{1, 48, 1},
		{1, -48, 1},
		{1, -49, 1 << 47},
		{1 << 47, 1, 1},
		{1 << 48, 5, 0},
		{1<<48 + 1, 4, 16},
		{math.MaxUint64, 13, word},
		{0x123456789abc, 4, 0x23456789abc1},
		{0x123456789abc, -4, 0xc123456789ab},
		{0x123456789abc, 96, 0x123456789abc},
		{0x123456789abc, 1000003, 0xb3c4d5e091a2},
		{0x123456789abc, -1000003, 0x135782468acf},
		{0x123456789abc, math.MinInt, 0x56789abc1234},
		{0x123456789abc, math.MaxInt, 0x4d5e091a2b3c},
	} {
		if got := Turn(x.a, x.n); got != x.want {
			t.Errorf("Turn(%x, %d) = %x, want %x", x.a, x.n, got, x.want)
		}
	}
}

// P1.2, with answers worked out apart from this package.
func TestMix(t *testing.T) {
	for _, x := range []struct{ a, b, want uint64 }{
		{0, 0, 0},
		{1, 0, 0x47aea63d569a},
		{0, 1, 0xd4f91d6190f5},
		{1, 2, 0x6ad88e1bec60},
		{2, 1, 0xd927c5a0d9f8},
		{word, word, 0},
		{0x123456789abc, 0xcba987654321, 0xc54dabf1a789},
		{1 << 17, 1, 0},
		{1 << 47, 1 << 31, 0xf9a5e81ea5f9},
		{1 << 48, 1 << 48, 0},
		{1<<48 + 1, 2, 0x6ad88e1bec60},
		{1, 1<<48 + 2, 0x6ad88e1bec60},
		{math.MaxUint64, math.MaxUint64, 0},
	} {
		if got := Mix(x.a, x.b); got != x.want {
			t.Errorf("Mix(%x, %x) = %x, want %x", x.a, x.b, got, x.want)
		}
	}
}

// mixed follows the promise's words by great numbers and single bits.
func mixed(a, b uint64) uint64 {
	x := cutBig(great(a)) ^ turned(b, 17)
	for _, n := range []int{7, 14, 21} {
		sum := new(big.Int).Mul(great(x), great(0x9e3779b97f4b))
		sum.Add(sum, great(turned(x, n)))
		x = cutBig(sum)
		x = x ^ x/(1<<23)
	}
	return x
}

// P1.2
func TestMixOfSamples(t *testing.T) {
	for _, a := range samples() {
		for _, b := range samples() {
			if got, want := Mix(a, b), mixed(a, b); got != want {
				t.Fatalf("Mix(%x, %x) = %x, want %x", a, b, got, want)
			}
		}
	}
}

// P1.3
func TestHex(t *testing.T) {
	for _, a := range samples() {
		if got, want := Hex(a), fmt.Sprintf("%012x", a&word); got != want {
			t.Errorf("Hex(%x) = %q, want %q", a, got, want)
		}
	}
	for _, x := range []struct {
		a    uint64
		want string
	}{
		{0, "000000000000"},
		{255, "0000000000ff"},
		{0x0123456789ab, "0123456789ab"},
		{0xabcdef000000, "abcdef000000"},
		{word, "ffffffffffff"},
		{word + 1, "000000000000"},
		{math.MaxUint64, "ffffffffffff"},
	} {
		if got := Hex(x.a); got != x.want {
			t.Errorf("Hex(%x) = %q, want %q", x.a, got, x.want)
		}
	}
}

// P1.3
func TestReadOfHex(t *testing.T) {
	for _, a := range samples() {
		if got, ok := Read(Hex(a)); got != a&word || !ok {
			t.Errorf("Read(%q) = %x, %v", Hex(a), got, ok)
		}
	}
	for _, x := range []struct {
		s    string
		want uint64
	}{
		{"000000000000", 0},
		{"0000000000ff", 255},
		{"0123456789ab", 0x0123456789ab},
		{"fedcba987654", 0xfedcba987654},
		{"ffffffffffff", word},
	} {
		if got, ok := Read(x.s); got != x.want || !ok {
			t.Errorf("Read(%q) = %x, %v", x.s, got, ok)
		}
	}
}

// P1.3: each byte in each place of a text that is else a word's Hex.
func TestReadOfEachByte(t *testing.T) {
	for place := 0; place < 12; place++ {
		for c := 0; c < 256; c++ {
			text := []byte("00a000000000")
			text[place] = byte(c)
			s := string(text)
			want, good := uint64(0), strings.IndexByte("0123456789abcdef", byte(c)) >= 0
			if good {
				fmt.Sscanf(s, "%x", &want)
			}
			if got, ok := Read(s); got != want || ok != good {
				t.Errorf("Read(%q) = %x, %v, want %x, %v", s, got, ok, want, good)
			}
		}
	}
}

// P1.3
func TestReadOfOtherTexts(t *testing.T) {
	for _, s := range []string{
		"",
		"f",
		"ff",
		"0000000000f",
		"00000000000ff",
		"ffffffffffff0",
		"0ffffffffffff",
		"000000000000000000000000",
		"00000000FF01",
		"00000000fF01",
		"00000000ff0g",
		"0x00000000ff",
		"+0000000000f",
		"-0000000000f",
		"0000_0000_ff",
		" 0000000000f",
		"0000000000f ",
		"0000000000f\n",
		"0000000000ff\n",
		"0000000000ff\x00",
		"0000000000é",
		"00000000000é",
		"\uff10\uff10\uff10\uff10",
		"\u0660\u0660\u0660\u0660\u0660\u0660",
		"\xff\xff\xff\xff\xff\xff\xff\xff\xff\xff\xff\xff",
		strings.Repeat("f", 1<<16),
	} {
		if got, ok := Read(s); got != 0 || ok {
			t.Errorf("Read(%.20q) = %x, %v", s, got, ok)
		}
	}
}
