package hash64_test

import (
	"bytes"
	"encoding/binary"
	"math"
	"math/big"
	"math/rand"
	"slices"
	"strings"
	"testing"

	"arenanet/hash64"
)

// factor is the multiplier of the specification, inverse its inverse modulo 2^64.
const factor, inverse = 0x9E3779B97F4A7C15, 0xF1DE83E19937733D

var edges = []int{0, 1, -1, 2, 255, 256, 1 << 31, 1<<32 - 1, 1 << 32, -1 << 32, math.MaxInt, math.MaxInt - 1, math.MinInt, math.MinInt + 1}

// mixed is mixing by another way than the program's: a product of unbounded size, cut to 64 bits.
func mixed(state, word uint64) uint64 {
	product := new(big.Int).SetUint64(state ^ word)
	product.Mul(product, new(big.Int).SetUint64(factor))
	modulus := new(big.Int).Lsh(big.NewInt(1), 64)
	product.Mod(product, modulus)
	high := new(big.Int).Rsh(product, 32)
	return product.Xor(product, high).Uint64()
}

// unmixed takes mixing back: it returns the xor of the state and the word that were mixed.
func unmixed(state uint64) uint64 { return (state ^ state>>32) * inverse }

// groups returns the words of a byte slice, by way of a padded copy.
func groups(b []byte) []uint64 {
	padded := append(slices.Clone(b), make([]byte, (8-len(b)%8)%8)...)
	var l []uint64
	for ; len(padded) > 0; padded = padded[8:] {
		l = append(l, binary.LittleEndian.Uint64(padded))
	}
	return l
}

// sequence lists all that Sum mixes in.
func sequence(label string, words []int) []uint64 {
	l := append(groups([]byte(label)), uint64(len(label)), uint64(len(words)))
	for _, n := range words {
		l = append(l, uint64(n))
	}
	return append(l, 0)
}

// byteWords lists the integers as whose sum a byte slice is hashed.
func byteWords(b []byte) []int {
	var l []int
	for _, w := range groups(b) {
		l = append(l, int(w))
	}
	return append(l, len(b))
}

// modelSum is Sum by the model's mixing.
func modelSum(label string, words ...int) uint64 {
	var state uint64
	for _, w := range sequence(label, words) {
		state = mixed(state, w)
	}
	return state
}

// recovered works out from a sum which number was mixed in at a place, given all the others.
func recovered(sum uint64, all []uint64, place int) uint64 {
	var before uint64
	for _, w := range all[:place] {
		before = mixed(before, w)
	}
	after := sum
	for i := len(all) - 1; i > place; i-- {
		after = unmixed(after) ^ all[i]
	}
	return unmixed(after) ^ before
}

func randomBytes(r *rand.Rand, n int) []byte {
	b := make([]byte, n)
	r.Read(b)
	return b
}

func randomWords(r *rand.Rand, n int) []int {
	l := make([]int, n)
	for i := range l {
		if r.Intn(2) == 0 {
			l[i] = edges[r.Intn(len(edges))]
		} else {
			l[i] = int(r.Uint64())
		}
	}
	return l
}

func TestP10_1_Vectors(t *testing.T) {
	for _, x := range []struct {
		label string
		words []int
		want  uint64
	}{
		{"", nil, 0},
		{"", []int{0}, 0x9C60C22591400851},
		{"a", nil, 0x80B5F6F3A21F8298},
		{"a", []int{5}, 0xDBBE367E93B58544},
		{"a", []int{6}, 0x49FC8178B938ECAF},
		{"a", []int{513, 2}, 0x5CD85CBD93FD0838},
		{"a", []int{0, 0, 0}, 0x69423DCCB808B09A},
		{"a", []int{-1}, 0x09EE594D249F2A64},
		{"a", []int{math.MinInt}, 0xEE7200CFF569C06F},
		{"a", []int{math.MaxInt}, 0x49939757E4E2E47E},
		{"abcdefg", nil, 0x7F70EE15A63F17FC},
		{"abcdefgh", []int{1, 2, 3}, 0xB9B7F7A5DE698000},
		{"abcdefghi", []int{1, 2, 3}, 0x64B540F187A31DD9},
		{"aaaaaaaaaaaaaaaa", []int{1}, 0x69F14E79CEC48DA2},
		// A label's bytes count, whether they are UTF-8 or not.
		{"\xFF\x80", []int{1}, 0xDEBE5D7225BFD2FE},
		{"\u00E9", []int{7}, 0xD607386885B813D2},
	} {
		if got := hash64.Sum(x.label, x.words...); got != x.want {
			t.Errorf("Sum(%q, %v) = %#X, want %#X", x.label, x.words, got, x.want)
		}
	}
}

// TestP10_1_Model compares with the model: labels up to and beyond two groups, and lists with edges of all sizes.
func TestP10_1_Model(t *testing.T) {
	r := rand.New(rand.NewSource(10))
	for length := range 26 {
		for count := range 12 {
			for range 6 {
				label, words := string(randomBytes(r, length)), randomWords(r, count)
				if got, want := hash64.Sum(label, words...), modelSum(label, words...); got != want {
					t.Errorf("Sum(%q, %v) = %#X, want %#X", label, words, got, want)
				}
			}
		}
	}
	for _, n := range edges {
		if got, want := hash64.Sum("edge", n), modelSum("edge", n); got != want {
			t.Errorf("Sum(\"edge\", %d) = %#X, want %#X", n, got, want)
		}
	}
}

// TestP10_1_Zeros has zero words and zero bytes only: under one label their number tells in the sum.
func TestP10_1_Zeros(t *testing.T) {
	for length := range 20 {
		seen := map[uint64]int{}
		for count := range 20 {
			label, words := strings.Repeat("\x00", length), make([]int, count)
			got := hash64.Sum(label, words...)
			if want := modelSum(label, words...); got != want {
				t.Errorf("Sum of %d zero bytes and %d zeros = %#X, want %#X", length, count, got, want)
			}
			if other, ok := seen[got]; ok {
				t.Errorf("under a label of %d zero bytes, %d zeros have the sum of %d zeros", length, count, other)
			}
			seen[got] = count
		}
	}
}

func TestP10_1_Long(t *testing.T) {
	r := rand.New(rand.NewSource(101))
	label, words := string(randomBytes(r, 10001)), randomWords(r, 10000)
	if got, want := hash64.Sum(label, words...), modelSum(label, words...); got != want {
		t.Errorf("Sum of a long list = %#X, want %#X", got, want)
	}
}

func TestP10_2_Vectors(t *testing.T) {
	for _, x := range []struct {
		label string
		b     []byte
		want  uint64
	}{
		{"a", nil, 0xAECCC2C435D70264},
		{"", nil, 0x9C60C22591400851},
		{"a", []byte{0}, 0xAFFAE7C4CB5A318D},
		{"a", []byte{1, 2}, 0x5CD85CBD93FD0838},
		{"a", []byte{1, 2, 3, 4, 5, 6, 7}, 0xBAAD8C9B24C643BF},
		{"a", []byte{1, 2, 3, 4, 5, 6, 7, 8}, 0x4657D4F381DB6FB8},
		{"a", []byte{1, 2, 3, 4, 5, 6, 7, 8, 9}, 0x193354C4B2CF0C3E},
		{"a", bytes.Repeat([]byte{255}, 16), 0x12DD23B7A1744292},
		{"a", make([]byte, 17), 0x100F2725F0C78467},
		{"", make([]byte, 17), 0x0226604DAD7F83DC},
	} {
		if got := hash64.Bytes(x.label, x.b); got != x.want {
			t.Errorf("Bytes(%q, %v) = %#X, want %#X", x.label, x.b, got, x.want)
		}
	}
	for _, x := range []struct{ a, b, want uint64 }{
		{0, 0, 0xA37203A6CD944451},
		{1, 2, 0xD5E6A2A3A39A5DF8},
		{2, 1, 0x9A705C9DF9B46602},
		{math.MaxUint64, math.MaxUint64, 0x7D494B93E5939A5F},
		{1 << 63, 5, 0xD2E16B299FBC35D0},
		{0x0123456789ABCDEF, 0xFEDCBA9876543210, 0x36F89BFC7A902D58},
	} {
		if got := hash64.Pair(x.a, x.b); got != x.want {
			t.Errorf("Pair(%#x, %#x) = %#X, want %#X", x.a, x.b, got, x.want)
		}
	}
}

func TestP10_2_Bytes(t *testing.T) {
	r := rand.New(rand.NewSource(102))
	for length := range 70 {
		for range 5 {
			label, b := string(randomBytes(r, r.Intn(20))), randomBytes(r, length)
			got := hash64.Bytes(label, b)
			if want := modelSum(label, byteWords(b)...); got != want {
				t.Errorf("Bytes(%q, %v) = %#X, want %#X", label, b, got, want)
			}
			if want := hash64.Sum(label, byteWords(b)...); got != want {
				t.Errorf("Bytes(%q, %v) = %#X, Sum of its words and length is %#X", label, b, got, want)
			}
		}
	}
	long := randomBytes(r, 1<<20+3)
	if got, want := hash64.Bytes("long", long), hash64.Sum("long", byteWords(long)...); got != want {
		t.Errorf("Bytes of a long slice = %#X, want %#X", got, want)
	}
}

// TestP10_2_Padding has slices whose words are equal: the length tells them apart.
func TestP10_2_Padding(t *testing.T) {
	seen := map[uint64]int{}
	for length := range 40 {
		b := make([]byte, length)
		if length > 0 {
			b[0] = 1
		}
		h := hash64.Bytes("pad", b)
		if other, ok := seen[h]; ok {
			t.Errorf("the hash of %d bytes is that of %d bytes", length, other)
		}
		seen[h] = length
	}
}

func TestP10_2_Pair(t *testing.T) {
	for _, a := range edges {
		for _, b := range edges {
			got := hash64.Pair(uint64(a), uint64(b))
			if want := modelSum("pair", a, b); got != want || got != hash64.Sum("pair", a, b) {
				t.Errorf("Pair(%#x, %#x) = %#X, want %#X", uint64(a), uint64(b), got, want)
			}
		}
	}
}

// TestP10_3_Recovered works every element out of the sum and the other elements: two of them can't have the same sum then.
func TestP10_3_Recovered(t *testing.T) {
	r := rand.New(rand.NewSource(103))
	for count := range 10 {
		for range 20 {
			label, words := string(randomBytes(r, r.Intn(20))), randomWords(r, count)
			all := sequence(label, words)
			sum := hash64.Sum(label, words...)
			for place, want := range all {
				if got := recovered(sum, all, place); got != want {
					t.Errorf("Sum(%q, %v): number %d of what was mixed in would be %#x, want %#x", label, words, place, got, want)
				}
			}
		}
	}
}

// TestP10_3_OneElement changes one element, by each of its bits and to each edge.
func TestP10_3_OneElement(t *testing.T) {
	r := rand.New(rand.NewSource(1030))
	for count := 1; count < 8; count++ {
		words := randomWords(r, count)
		for place, old := range words {
			seen := map[uint64]int{}
			others := append(slices.Clone(edges), old)
			for bit := range 64 {
				others = append(others, old^1<<bit)
			}
			slices.Sort(others)
			for _, n := range slices.Compact(others) {
				words[place] = n
				h := hash64.Sum("one", words...)
				if other, ok := seen[h]; ok {
					t.Errorf("%v: element %d may be %d or %d", words, place, other, n)
				}
				seen[h] = n
			}
			words[place] = old
		}
	}
}

// TestP10_3_OneGroup changes each bit of each byte, and all bytes of a group at once, in slices and in labels.
func TestP10_3_OneGroup(t *testing.T) {
	r := rand.New(rand.NewSource(1031))
	for length := 1; length < 30; length++ {
		b := randomBytes(r, length)
		hash, sum := hash64.Bytes("b", b), hash64.Sum(string(b), 4, 5)
		differ := func(what string, at int) {
			t.Helper()
			if hash64.Bytes("b", b) == hash {
				t.Errorf("%d bytes have the same hash with another %s %d", length, what, at)
			}
			if hash64.Sum(string(b), 4, 5) == sum {
				t.Errorf("a label of %d bytes gives the same sum with another %s %d", length, what, at)
			}
		}
		for bit := range 8 * length {
			b[bit/8] ^= 1 << (bit % 8)
			differ("bit", bit)
			b[bit/8] ^= 1 << (bit % 8)
		}
		for from := 0; from < length; from += 8 {
			old := slices.Clone(b)
			group := b[from:min(from+8, length)]
			for i := range group {
				group[i] += byte(1 + r.Intn(255))
			}
			differ("group from", from)
			copy(b, old)
		}
	}
}

// TestP10_4_Pair works each argument out of the result and the other one, and holds many results against each other.
func TestP10_4_Pair(t *testing.T) {
	r := rand.New(rand.NewSource(104))
	for range 2000 {
		a, b := r.Uint64(), r.Uint64()
		if r.Intn(4) == 0 {
			b = uint64(edges[r.Intn(len(edges))])
		}
		all := sequence("pair", []int{int(a), int(b)})
		h := hash64.Pair(a, b)
		if gotA, gotB := recovered(h, all, len(all)-3), recovered(h, all, len(all)-2); gotA != a || gotB != b {
			t.Errorf("Pair(%#x, %#x): the arguments would be %#x, %#x", a, b, gotA, gotB)
		}
	}
	for _, fixed := range edges {
		first, second := map[uint64]uint64{}, map[uint64]uint64{}
		for n := range uint64(3000) {
			x := n * 0x0123456789ABCDEF
			for side, seen := range []map[uint64]uint64{first, second} {
				h := hash64.Pair(x, uint64(fixed))
				if side == 1 {
					h = hash64.Pair(uint64(fixed), x)
				}
				if other, ok := seen[h]; ok {
					t.Errorf("beside %#x, argument %d may be %#x or %#x", uint64(fixed), side, other, x)
				}
				seen[h] = x
			}
		}
	}
}

func TestExamples(t *testing.T) {
	if hash64.Sum("a", 5) == hash64.Sum("a", 6) {
		t.Error("Sum(\"a\", 5) equals Sum(\"a\", 6)")
	}
	if hash64.Bytes("a", []byte{1, 2}) != hash64.Sum("a", 513, 2) {
		t.Error("Bytes(\"a\", [1 2]) differs from Sum(\"a\", 513, 2)")
	}
}

// TestNilAndEmpty is rule R4: nil and empty are equivalent.
func TestNilAndEmpty(t *testing.T) {
	if hash64.Sum("n") != hash64.Sum("n", []int{}...) || hash64.Sum("n") != hash64.Sum("n", []int(nil)...) {
		t.Error("Sum differs between nil and empty")
	}
	if hash64.Bytes("n", nil) != hash64.Bytes("n", []byte{}) {
		t.Error("Bytes differs between nil and empty")
	}
}

// TestArgumentsStay is rules R4 and R5: neither the arguments nor their spare capacity change, and the capacity doesn't count.
func TestArgumentsStay(t *testing.T) {
	r := rand.New(rand.NewSource(105))
	for length := range 20 {
		b, words := randomBytes(r, 40), randomWords(r, 40)
		oldB, oldWords := slices.Clone(b), slices.Clone(words)
		if got, want := hash64.Bytes("x", b[:length]), hash64.Bytes("x", slices.Clip(slices.Clone(b[:length]))); got != want {
			t.Errorf("%d bytes with spare capacity: %#X, without %#X", length, got, want)
		}
		if got, want := hash64.Sum("x", words[:length]...), hash64.Sum("x", slices.Clip(slices.Clone(words[:length]))...); got != want {
			t.Errorf("%d words with spare capacity: %#X, without %#X", length, got, want)
		}
		if !bytes.Equal(b, oldB) || !slices.Equal(words, oldWords) {
			t.Errorf("the arguments of length %d became %v, %v", length, b, words)
		}
	}
}

// TestRepeated is rule R5: earlier calls don't count.
func TestRepeated(t *testing.T) {
	sum, hash, pair := hash64.Sum("r", 1, 2), hash64.Bytes("r", []byte{1}), hash64.Pair(1, 2)
	for i := range 100 {
		hash64.Sum("other", i)
		hash64.Bytes("other", make([]byte, i))
		if hash64.Sum("r", 1, 2) != sum || hash64.Bytes("r", []byte{1}) != hash || hash64.Pair(1, 2) != pair {
			t.Fatalf("other results after %d calls", i)
		}
	}
}
