package limb_test

import (
	"bytes"
	"math"
	"math/big"
	"math/rand"
	"slices"
	"testing"

	"sigil/api"
	"sigil/limb"
)

// top is a word whose bits are all 1.
const top = 1<<64 - 1

// number is what words mean, by the chapter's own words: each times 2^64's power of its place, added.
func number(words []uint64) *big.Int {
	sum := new(big.Int)
	for i, word := range words {
		part := new(big.Int).SetUint64(word)
		sum.Add(sum, part.Lsh(part, uint(64*i)))
	}
	return sum
}

// power is 2^64's power of n.
func power(n int) *big.Int { return new(big.Int).Lsh(big.NewInt(1), uint(64*n)) }

// repeated are n words of one value.
func repeated(word uint64, n int) []uint64 { return slices.Repeat([]uint64{word}, n) }

// drawn are n words, many of which lie at the edges of a word.
func drawn(random *rand.Rand, n int) []uint64 {
	words := make([]uint64, n)
	for i := range words {
		switch random.Intn(8) {
		case 0:
			words[i] = 0
		case 1:
			words[i] = top
		case 2:
			words[i] = 1 << random.Intn(64)
		case 3:
			words[i] = uint64(random.Intn(3))
		case 4:
			words[i] = top - uint64(random.Intn(3))
		default:
			words[i] = random.Uint64()
		}
	}
	return words
}

// samples are numbers of no words, of noughts, with noughts at their tops, of ones, and drawn ones of up to nine words.
func samples() [][]uint64 {
	all := [][]uint64{
		nil, {}, {0}, {0, 0}, {0, 0, 0, 0}, {1}, {1, 0}, {1, 0, 0, 0}, {0, 1}, {0, 0, 1}, {2}, {10}, {top}, {top, 0}, {0, top}, {top - 1}, {top - 1, top},
		{1 << 63}, {0, 1 << 63}, {1, 1 << 63}, {1<<63 - 1}, {top, 1<<63 - 1}, {top, top}, {top, top, top}, {0, 0, top}, {1, 0, 1}, {5, 0, 0, 7, 0, 0},
		repeated(top, 9), repeated(1<<63, 5), append(repeated(0, 6), 1), append(repeated(0, 7), 1, 0),
	}
	random := rand.New(rand.NewSource(3))
	for n := 1; n <= 9; n++ {
		for range 4 {
			all = append(all, drawn(random, n))
		}
		all = append(all, append(drawn(random, n), 0, 0))
	}
	return all
}

// eachPair calls check with all pairs of samples.
func eachPair(check func(a, b []uint64)) {
	all := samples()
	for _, a := range all {
		for _, b := range all {
			check(a, b)
		}
	}
}

// rest is what Mod leaves, where there should be no error.
func rest(t *testing.T, a, m []uint64) []uint64 {
	t.Helper()
	left, e := limb.Mod(a, m)
	if e != api.OK {
		t.Fatalf("%X by %X: %v", a, m, e)
	}
	return left
}

// P3.1: what is carried, through no word, some, and all; lengths that differ; no words.
func TestAddExamples(t *testing.T) {
	for _, c := range []struct {
		a, b, want []uint64
		carry      uint64
	}{
		{[]uint64{top}, []uint64{1}, []uint64{0}, 1},
		{[]uint64{1}, []uint64{top}, []uint64{0}, 1},
		{[]uint64{2}, []uint64{3}, []uint64{5}, 0},
		{[]uint64{top, 5}, []uint64{1}, []uint64{0, 6}, 0},
		{[]uint64{1}, []uint64{top, 5}, []uint64{0, 6}, 0},
		{[]uint64{top, top}, []uint64{top, top}, []uint64{top - 1, top}, 1},
		{[]uint64{top, 0}, []uint64{1, top}, []uint64{0, 0}, 1},
		{[]uint64{top}, []uint64{1, 0}, []uint64{0, 1}, 0},
		{[]uint64{top}, []uint64{top, top}, []uint64{top - 1, 0}, 1},
		{repeated(top, 9), []uint64{1}, repeated(0, 9), 1},
		{[]uint64{1}, repeated(top, 9), repeated(0, 9), 1},
		{append(repeated(top, 8), 0), []uint64{1}, append(repeated(0, 8), 1), 0},
		{nil, nil, nil, 0},
		{nil, []uint64{7, 8}, []uint64{7, 8}, 0},
		{[]uint64{7, 8}, nil, []uint64{7, 8}, 0},
		{[]uint64{0, 0, 0}, []uint64{1}, []uint64{1, 0, 0}, 0},
	} {
		if got, carry := limb.Add(c.a, c.b); !slices.Equal(got, c.want) || carry != c.carry {
			t.Errorf("%X and %X: %X and %d, want %X and %d", c.a, c.b, got, carry, c.want, c.carry)
		}
	}
}

// P3.1: the words, as many as the longer one has, and what is above them, are the sum.
func TestAddOfSamples(t *testing.T) {
	eachPair(func(a, b []uint64) {
		got, carry := limb.Add(a, b)
		n := max(len(a), len(b))
		whole := number(append(slices.Clone(got), carry))
		if want := new(big.Int).Add(number(a), number(b)); len(got) != n || carry > 1 || whole.Cmp(want) != 0 {
			t.Errorf("%X and %X: %X and %d", a, b, got, carry)
		}
	})
}

// P3.1: differences below 0 and not; what is borrowed, through no word, some, and all; lengths that differ; no words.
func TestSubExamples(t *testing.T) {
	for _, c := range []struct {
		a, b, want []uint64
		borrow     uint64
	}{
		{[]uint64{0}, []uint64{1}, []uint64{top}, 1},
		{[]uint64{5}, []uint64{3}, []uint64{2}, 0},
		{[]uint64{3}, []uint64{5}, []uint64{top - 1}, 1},
		{[]uint64{5}, []uint64{5}, []uint64{0}, 0},
		{[]uint64{0, 6}, []uint64{1}, []uint64{top, 5}, 0},
		{[]uint64{1}, []uint64{0, 6}, []uint64{1, top - 5}, 1},
		{[]uint64{1}, []uint64{2, 0, 0}, []uint64{top, top, top}, 1},
		{append(repeated(0, 8), 1), []uint64{1}, append(repeated(top, 8), 0), 0},
		{repeated(0, 9), []uint64{1}, repeated(top, 9), 1},
		{nil, repeated(0, 3), repeated(0, 3), 0},
		{nil, []uint64{1}, []uint64{top}, 1},
		{nil, []uint64{0, 1}, []uint64{0, top}, 1},
		{[]uint64{7, 8}, nil, []uint64{7, 8}, 0},
		{nil, nil, nil, 0},
		{[]uint64{0, 1}, []uint64{top, 1}, []uint64{1, top}, 1},
		{[]uint64{0, 0}, []uint64{top, top}, []uint64{1, 0}, 1},
	} {
		if got, borrow := limb.Sub(c.a, c.b); !slices.Equal(got, c.want) || borrow != c.borrow {
			t.Errorf("%X less %X: %X and %d, want %X and %d", c.a, c.b, got, borrow, c.want, c.borrow)
		}
	}
}

// P3.1: the words are the difference, with 2^64's power of as many added just if it is below 0.
func TestSubOfSamples(t *testing.T) {
	eachPair(func(a, b []uint64) {
		got, borrow := limb.Sub(a, b)
		n := max(len(a), len(b))
		want, wantBorrow := new(big.Int).Sub(number(a), number(b)), uint64(0)
		if want.Sign() < 0 {
			want.Add(want, power(n))
			wantBorrow = 1
		}
		if len(got) != n || borrow != wantBorrow || number(got).Cmp(want) != 0 {
			t.Errorf("%X less %X: %X and %d", a, b, got, borrow)
		}
	})
}

// P3.1: orders, of numbers of different lengths too, and of words that a signed number would take for others.
func TestCmpExamples(t *testing.T) {
	for _, c := range []struct {
		a, b []uint64
		want int
	}{
		{nil, nil, 0},
		{nil, []uint64{0, 0}, 0},
		{[]uint64{0}, nil, 0},
		{nil, []uint64{1}, -1},
		{nil, []uint64{0, 1}, -1},
		{[]uint64{0, 0, 1}, nil, 1},
		{[]uint64{1, 0}, []uint64{1}, 0},
		{[]uint64{1}, []uint64{1, 0, 0}, 0},
		{[]uint64{2}, []uint64{1, 0, 0}, 1},
		{[]uint64{top}, []uint64{0, 1}, -1},
		{[]uint64{0, 2}, []uint64{top, 1}, 1},
		{[]uint64{top, 1}, []uint64{0, 2}, -1},
		{[]uint64{1 << 63}, []uint64{1<<63 - 1}, 1},
		{[]uint64{0, top}, []uint64{0, 1}, 1},
		{[]uint64{1, 5, 5}, []uint64{2, 5, 5}, -1},
		{[]uint64{5, 5, 5}, []uint64{5, 5, 5}, 0},
	} {
		if got := limb.Cmp(c.a, c.b); got != c.want {
			t.Errorf("%X to %X: %d, want %d", c.a, c.b, got, c.want)
		}
	}
}

// P3.1.
func TestCmpOfSamples(t *testing.T) {
	eachPair(func(a, b []uint64) {
		if got, want := limb.Cmp(a, b), number(a).Cmp(number(b)); got != want {
			t.Errorf("%X to %X: %d, want %d", a, b, got, want)
		}
	})
}

// P3.2: as many words as both have together, noughts and factors of no words too.
func TestMulExamples(t *testing.T) {
	for _, c := range []struct{ a, b, want []uint64 }{
		{[]uint64{1 << 63}, []uint64{2}, []uint64{0, 1}},
		{[]uint64{3}, []uint64{5}, []uint64{15, 0}},
		{[]uint64{top}, []uint64{top}, []uint64{1, top - 1}},
		{[]uint64{top, top}, []uint64{top}, []uint64{1, top, top - 1}},
		{[]uint64{top}, []uint64{top, top}, []uint64{1, top, top - 1}},
		{[]uint64{top, top}, []uint64{top, top}, []uint64{1, 0, top - 1, top}},
		{[]uint64{0, 1}, []uint64{0, 0, 1}, []uint64{0, 0, 0, 1, 0}},
		{[]uint64{7, 0, 0}, []uint64{6, 0}, []uint64{42, 0, 0, 0, 0}},
		{[]uint64{0}, []uint64{top, top}, []uint64{0, 0, 0}},
		{nil, []uint64{5, 6}, []uint64{0, 0}},
		{[]uint64{5, 6}, nil, []uint64{0, 0}},
		{nil, nil, nil},
	} {
		if got := limb.Mul(c.a, c.b); !slices.Equal(got, c.want) {
			t.Errorf("%X times %X: %X, want %X", c.a, c.b, got, c.want)
		}
	}
}

// P3.2.
func TestMulOfSamples(t *testing.T) {
	eachPair(func(a, b []uint64) {
		got := limb.Mul(a, b)
		if want := new(big.Int).Mul(number(a), number(b)); len(got) != len(a)+len(b) || number(got).Cmp(want) != 0 {
			t.Errorf("%X times %X: %X", a, b, got)
		}
	})
}

// P3.2: as many words as m has; numbers below m, just m, shorter and longer; divisors of one word and of more.
func TestModExamples(t *testing.T) {
	for _, c := range []struct{ a, m, want []uint64 }{
		{[]uint64{0, 1}, []uint64{10}, []uint64{6}},
		{[]uint64{7}, []uint64{8, 0}, []uint64{7, 0}},
		{[]uint64{8, 0, 0}, []uint64{8}, []uint64{0}},
		{[]uint64{9, 0, 0}, []uint64{8, 0}, []uint64{1, 0}},
		{[]uint64{top, top, top}, []uint64{top, top}, []uint64{top, 0}},
		{[]uint64{0, 0, 1}, []uint64{1, 1 << 63}, []uint64{top, 1<<63 - 1}},
		{[]uint64{5, 6}, []uint64{5, 6}, []uint64{0, 0}},
		{[]uint64{4, 6}, []uint64{5, 6}, []uint64{4, 6}},
		{[]uint64{6, 6}, []uint64{5, 6}, []uint64{1, 0}},
		{[]uint64{7}, []uint64{0, 0, 1}, []uint64{7, 0, 0}},
		{[]uint64{7, 8, 9}, []uint64{1}, []uint64{0}},
		{[]uint64{7, 8, 9}, []uint64{0, 1}, []uint64{7, 0}},
		{nil, []uint64{5, 6}, []uint64{0, 0}},
		{[]uint64{0, 0, 0}, []uint64{3}, []uint64{0}},
		{[]uint64{top, top, top}, []uint64{top}, []uint64{0}},
		{[]uint64{top - 1, top, top}, []uint64{top}, []uint64{top - 1}},
	} {
		if got := rest(t, c.a, c.m); !slices.Equal(got, c.want) {
			t.Errorf("%X by %X: %X, want %X", c.a, c.m, got, c.want)
		}
	}
}

// checkMod holds one Mod, by an m that is not 0, against the library's.
func checkMod(t *testing.T, a, m []uint64) {
	t.Helper()
	got := rest(t, a, m)
	if want := new(big.Int).Mod(number(a), number(m)); len(got) != len(m) || number(got).Cmp(want) != 0 {
		t.Errorf("%X by %X: %X, want %X", a, m, got, want)
	}
}

// P3.2.
func TestModOfSamples(t *testing.T) {
	eachPair(func(a, m []uint64) {
		if number(m).Sign() != 0 {
			checkMod(t, a, m)
		}
	})
}

// P3.2: numbers just below, at and above multiples of m, where a quotient's words are guessed too great, and of all places of m's highest bit.
func TestModAboutMultiples(t *testing.T) {
	random := rand.New(rand.NewSource(4))
	for range 4000 {
		m := drawn(random, 1+random.Intn(5))
		m[len(m)-1] = max(1, m[len(m)-1]>>random.Intn(64))
		multiple := limb.Mul(m, drawn(random, 1+random.Intn(5)))
		above, _ := limb.Add(multiple, []uint64{1})
		below, borrow := limb.Sub(multiple, []uint64{1})
		checkMod(t, multiple, m)
		checkMod(t, above, m)
		if borrow == 0 {
			checkMod(t, below, m)
		}
	}
}

// P3.2: quotients whose highest words alone are guessed once and twice too great, and those where the part's highest word is just the divisor's.
func TestModOfWrongGuesses(t *testing.T) {
	for _, c := range []struct{ a, m []uint64 }{
		{[]uint64{0, 0, 1 << 62}, []uint64{top, 1 << 63}},
		{[]uint64{0, 0, 1<<63 - 1}, []uint64{top, 1 << 63}},
		{[]uint64{0, top - 1, 1 << 63}, []uint64{top, 1<<63 + 1}},
		{[]uint64{0, 0, 1 << 63}, []uint64{1, 1 << 63}},
		{[]uint64{0, 0, 1 << 63, 1<<63 - 1}, []uint64{1, 0, 1 << 63}},
		{[]uint64{3, 0, 1 << 63}, []uint64{1, 1 << 61}},
		{[]uint64{0, top - 1, top}, []uint64{top, top}},
		{[]uint64{0, 0, 0, 1 << 63}, []uint64{top, 0, 1 << 63}},
		{[]uint64{0, 0, top, 1 << 63, 0}, []uint64{top, top, 1 << 63}},
		{append(repeated(0, 12), top), append(repeated(top, 5), 1<<63)},
		{repeated(top, 13), append(repeated(top, 5), 1<<63)},
		{repeated(1<<63, 13), append(repeated(top, 5), 1)},
	} {
		checkMod(t, c.a, c.m)
	}
}

// P3.2, R2: a division by nought: ErrLimbZero, and no words beside it, whatever a is.
func TestModByNought(t *testing.T) {
	for _, m := range [][]uint64{nil, {}, {0}, {0, 0}, repeated(0, 100)} {
		for _, a := range samples() {
			if left, e := limb.Mod(a, m); len(left) != 0 || e != api.ErrLimbZero {
				t.Errorf("%X by %X: %X, %v", a, m, left, e)
			}
		}
	}
}

// The error's number is the chapter's.
func TestErrLimbZeroIsThirty(t *testing.T) {
	if api.ErrLimbZero != 30 {
		t.Errorf("%d", int(api.ErrLimbZero))
	}
}

// Words: noughts at a number's top change nothing but how many words are answered.
func TestNoughtsAtTheTop(t *testing.T) {
	noughts := []uint64{0, 0, 0}
	eachPair(func(a, b []uint64) {
		longA, longB := slices.Concat(a, noughts), slices.Concat(b, noughts)
		if limb.Cmp(longA, b) != limb.Cmp(a, b) || limb.Cmp(a, longB) != limb.Cmp(a, b) {
			t.Errorf("%X to %X: noughts change the order", a, b)
		}
		if limb.Cmp(limb.Mul(longA, b), limb.Mul(a, b)) != 0 || limb.Cmp(limb.Mul(a, longB), limb.Mul(a, b)) != 0 {
			t.Errorf("%X times %X: noughts change the product", a, b)
		}
		if !bytes.Equal(limb.Octets(longA, 50), limb.Octets(a, 50)) {
			t.Errorf("%X: noughts change the bytes", a)
		}
		if number(b).Sign() == 0 {
			return
		}
		if limb.Cmp(rest(t, longA, b), rest(t, a, b)) != 0 || limb.Cmp(rest(t, a, longB), rest(t, a, b)) != 0 {
			t.Errorf("%X by %X: noughts change what is left", a, b)
		}
	})
}

// P3.3: an n of 0, below 0, of fewer bytes than the number has, of as many, and of more.
func TestOctetsExamples(t *testing.T) {
	two := []uint64{0x0102030405060708, 0x090A0B0C0D0E0F10}
	for _, c := range []struct {
		a    []uint64
		n    int
		want []byte
	}{
		{[]uint64{258}, 3, []byte{0, 1, 2}},
		{[]uint64{258}, 2, []byte{1, 2}},
		{[]uint64{258}, 1, []byte{2}},
		{[]uint64{258}, 0, nil},
		{[]uint64{258}, -1, nil},
		{[]uint64{258}, -8, nil},
		{[]uint64{258}, math.MinInt, nil},
		{nil, 0, nil},
		{nil, -1, nil},
		{nil, 3, []byte{0, 0, 0}},
		{two, 7, []byte{2, 3, 4, 5, 6, 7, 8}},
		{two, 8, []byte{1, 2, 3, 4, 5, 6, 7, 8}},
		{two, 9, []byte{16, 1, 2, 3, 4, 5, 6, 7, 8}},
		{two, 16, []byte{9, 10, 11, 12, 13, 14, 15, 16, 1, 2, 3, 4, 5, 6, 7, 8}},
		{two, 18, []byte{0, 0, 9, 10, 11, 12, 13, 14, 15, 16, 1, 2, 3, 4, 5, 6, 7, 8}},
	} {
		if got := limb.Octets(c.a, c.n); !bytes.Equal(got, c.want) {
			t.Errorf("%X, %d bytes: %X, want %X", c.a, c.n, got, c.want)
		}
	}
}

// P3.3: the n lowest bytes, of every n up to more than the number has.
func TestOctetsOfSamples(t *testing.T) {
	for _, a := range samples() {
		for n := range 8*len(a) + 20 {
			modulus := new(big.Int).Lsh(big.NewInt(1), uint(8*n))
			want := new(big.Int).Mod(number(a), modulus).FillBytes(make([]byte, n))
			if got := limb.Octets(a, n); !bytes.Equal(got, want) {
				t.Errorf("%X, %d bytes: %X, want %X", a, n, got, want)
			}
		}
	}
}

// R1: no n makes Octets panic, though beyond the bound nothing is promised.
func TestOctetsBeyondTheBound(t *testing.T) {
	for _, n := range []int{math.MaxInt, math.MaxInt - 1, math.MaxInt - 7} {
		limb.Octets([]uint64{258}, n)
	}
}

// P3.3: no bytes, numbers of bytes that 8 divides and does not, and bytes 0 ahead, which are held too.
func TestWordsExamples(t *testing.T) {
	for _, c := range []struct {
		b    []byte
		want []uint64
	}{
		{nil, nil},
		{[]byte{}, nil},
		{[]byte{0}, []uint64{0}},
		{[]byte{7}, []uint64{7}},
		{[]byte{1, 2, 3}, []uint64{0x010203}},
		{[]byte{1, 2, 3, 4, 5, 6, 7}, []uint64{0x01020304050607}},
		{[]byte{1, 2, 3, 4, 5, 6, 7, 8}, []uint64{0x0102030405060708}},
		{[]byte{1, 0, 0, 0, 0, 0, 0, 0, 2}, []uint64{2, 1}},
		{[]byte{9, 8, 7, 6, 5, 4, 3, 2, 1, 0}, []uint64{0x0706050403020100, 0x0908}},
		{make([]byte, 8), []uint64{0}},
		{make([]byte, 9), []uint64{0, 0}},
		{make([]byte, 16), []uint64{0, 0}},
		{make([]byte, 17), []uint64{0, 0, 0}},
		{bytes.Repeat([]byte{255}, 16), []uint64{top, top}},
	} {
		if got := limb.Words(c.b); !slices.Equal(got, c.want) {
			t.Errorf("%X: %X, want %X", c.b, got, c.want)
		}
	}
}

// P3.3: all lengths up to eight words: the number, in as few words as hold so many bytes; and back again.
func TestWordsOfAllLengths(t *testing.T) {
	random := rand.New(rand.NewSource(5))
	for n := range 66 {
		b := make([]byte, n)
		random.Read(b)
		got := limb.Words(b)
		few := 0
		for 8*few < n {
			few++
		}
		if len(got) != few || number(got).Cmp(new(big.Int).SetBytes(b)) != 0 {
			t.Errorf("%X: %X", b, got)
		}
		if back := limb.Octets(got, n); !bytes.Equal(back, b) {
			t.Errorf("%X: back again %X", b, back)
		}
	}
}

// P3.4: what is added and taken away is what it was: the one way round, and the other.
func TestAddedAndTakenAway(t *testing.T) {
	eachPair(func(a, b []uint64) {
		sum, carry := limb.Add(a, b)
		if back, borrow := limb.Sub(sum, b); limb.Cmp(back, a) != 0 || borrow != carry {
			t.Errorf("%X and %X, less it: %X, %d", a, b, back, borrow)
		}
		difference, borrow := limb.Sub(a, b)
		if back, carry := limb.Add(difference, b); limb.Cmp(back, a) != 0 || borrow != carry {
			t.Errorf("%X less %X, and it: %X, %d", a, b, back, carry)
		}
	})
}

// sum is an Add with what is carried as its highest word.
func sum(a, b []uint64) []uint64 {
	words, carry := limb.Add(a, b)
	return append(words, carry)
}

// P3.4: products hang on no order and no brackets, and are distributive.
func TestProductsOfProducts(t *testing.T) {
	random := rand.New(rand.NewSource(6))
	eachPair(func(a, b []uint64) {
		if !slices.Equal(limb.Mul(a, b), limb.Mul(b, a)) {
			t.Errorf("%X times %X: the order matters", a, b)
		}
		c := drawn(random, random.Intn(6))
		if !slices.Equal(limb.Mul(limb.Mul(a, b), c), limb.Mul(a, limb.Mul(b, c))) {
			t.Errorf("%X times %X times %X: the brackets matter", a, b, c)
		}
		whole, parts := limb.Mul(sum(a, b), c), sum(limb.Mul(a, c), limb.Mul(b, c))
		if limb.Cmp(whole, parts) != 0 {
			t.Errorf("%X and %X, times %X: %X, %X", a, b, c, whole, parts)
		}
	})
}

// P3.4: a number is its multiples of m and what is left, which is below m.
func TestMultiplesAndWhatIsLeft(t *testing.T) {
	random := rand.New(rand.NewSource(7))
	eachPair(func(m, times []uint64) {
		if number(m).Sign() == 0 {
			return
		}
		left := rest(t, drawn(random, len(m)+2), m)
		if limb.Cmp(left, m) >= 0 {
			t.Errorf("by %X: %X is left", m, left)
		}
		if got := rest(t, sum(limb.Mul(m, times), left), m); !slices.Equal(got, left) {
			t.Errorf("%X times %X, and %X: %X is left", m, times, left, got)
		}
	})
}

// flip turns all bits of words, those of their spare room too.
func flip(words []uint64) {
	for i := range words[:cap(words)] {
		words[:cap(words)][i] ^= top
	}
}

// listCalls are the calls of two numbers that answer words.
func listCalls() map[string]func(a, b []uint64) []uint64 {
	return map[string]func(a, b []uint64) []uint64{
		"Add": func(a, b []uint64) []uint64 { words, _ := limb.Add(a, b); return words },
		"Sub": func(a, b []uint64) []uint64 { words, _ := limb.Sub(a, b); return words },
		"Mul": limb.Mul,
		"Mod": func(a, b []uint64) []uint64 { words, _ := limb.Mod(a, b); return words },
	}
}

// P3.3, R4: words that are answered are memory of their own, spare room too, not an argument's, nor another answer's; arguments and their spare room stay as they were.
func TestWordsHaveMemoryOfTheirOwn(t *testing.T) {
	random := rand.New(rand.NewSource(8))
	for name, call := range listCalls() {
		for _, n := range [][2]int{{0, 0}, {0, 3}, {3, 0}, {1, 1}, {2, 4}, {4, 2}, {3, 3}} {
			roomA, roomB := drawn(random, n[0]+5), drawn(random, n[1]+5)
			beforeA, beforeB := slices.Clone(roomA), slices.Clone(roomB)
			a, b := roomA[:n[0]], roomB[:n[1]]
			first, second := call(a, b), call(a, b)
			want := slices.Clone(second)
			flip(first)
			if !slices.Equal(roomA, beforeA) || !slices.Equal(roomB, beforeB) || !slices.Equal(second, want) {
				t.Errorf("%s of %d words and %d: changed an argument, or shares memory with one or with another answer", name, n[0], n[1])
			}
			flip(roomA)
			flip(roomB)
			if !slices.Equal(second, want) {
				t.Errorf("%s of %d words and %d: an argument was kept", name, n[0], n[1])
			}
			flip(roomA)
			flip(roomB)
			if third := call(a, b); !slices.Equal(third, want) {
				t.Errorf("%s of %d words and %d: asked again, the answer is another", name, n[0], n[1])
			}
		}
	}
}

// R4: one list handed in twice, and one that is a piece of the other's memory, do what lists of their own do.
func TestArgumentsThatShareMemory(t *testing.T) {
	random := rand.New(rand.NewSource(9))
	for name, call := range listCalls() {
		for n := range 6 {
			room := drawn(random, n+4)
			before := slices.Clone(room)
			a, b := room[:n], room[n/2:n+2]
			if got, want := call(a, a), call(slices.Clone(a), slices.Clone(a)); !slices.Equal(got, want) {
				t.Errorf("%s of %X and itself: %X, want %X", name, a, got, want)
			}
			if got, want := call(a, b), call(slices.Clone(a), slices.Clone(b)); !slices.Equal(got, want) {
				t.Errorf("%s of %X and %X: %X, want %X", name, a, b, got, want)
			}
			if limb.Cmp(a, a) != 0 || !slices.Equal(room, before) {
				t.Errorf("%s of %X: an argument changed, or is not itself", name, a)
			}
		}
	}
}

// P3.3, R4: Octets and Words answer memory of their own, spare room too, and leave what they are handed.
func TestBytesHaveMemoryOfTheirOwn(t *testing.T) {
	random := rand.New(rand.NewSource(10))
	for n := range 20 {
		room := drawn(random, n+3)
		before := slices.Clone(room)
		octets, second := limb.Octets(room[:n], 8*n+1), limb.Octets(room[:n], 8*n+1)
		for i := range octets[:cap(octets)] {
			octets[:cap(octets)][i] ^= 255
		}
		if !slices.Equal(room, before) || !bytes.Equal(second, limb.Octets(room[:n], 8*n+1)) {
			t.Errorf("%d words: Octets changed its argument, or shares memory", n)
		}
		bytesRoom := limb.Octets(room, 8*n+20)
		bytesBefore := slices.Clone(bytesRoom)
		words, others := limb.Words(bytesRoom[:8*n+1]), limb.Words(bytesRoom[:8*n+1])
		flip(words)
		if !bytes.Equal(bytesRoom, bytesBefore) || !slices.Equal(others, limb.Words(bytesRoom[:8*n+1])) {
			t.Errorf("%d bytes: Words changed its argument, or shares memory", 8*n+1)
		}
	}
}

// P3.1, P3.2: numbers of some thousand bits, as fields' products and far longer ones have.
func TestLongNumbers(t *testing.T) {
	random := rand.New(rand.NewSource(11))
	for _, n := range [][2]int{{12, 6}, {8, 4}, {40, 39}, {100, 1}, {300, 150}, {1000, 333}, {333, 1000}} {
		a, b := drawn(random, n[0]), append(drawn(random, n[1]-1), 1+random.Uint64()>>1)
		if want := new(big.Int).Mul(number(a), number(b)); number(limb.Mul(a, b)).Cmp(want) != 0 {
			t.Errorf("a product of %d words and %d is wrong", n[0], n[1])
		}
		if want := new(big.Int).Mod(number(a), number(b)); number(rest(t, a, b)).Cmp(want) != 0 {
			t.Errorf("what is left of %d words by %d is wrong", n[0], n[1])
		}
	}
}

// The chapter's section 'Examples', as it stands there.
func TestChapterExamples(t *testing.T) {
	if s, c := limb.Add([]uint64{top}, []uint64{1}); !slices.Equal(s, []uint64{0}) || c != 1 {
		t.Errorf("Add: %X, %d", s, c)
	}
	if s, c := limb.Sub([]uint64{0}, []uint64{1}); !slices.Equal(s, []uint64{top}) || c != 1 {
		t.Errorf("Sub: %X, %d", s, c)
	}
	if p := limb.Mul([]uint64{1 << 63}, []uint64{2}); !slices.Equal(p, []uint64{0, 1}) || limb.Cmp([]uint64{1, 0}, []uint64{1}) != 0 {
		t.Errorf("Mul: %X; or Cmp", p)
	}
	if got := rest(t, []uint64{0, 1}, []uint64{10}); !slices.Equal(got, []uint64{6}) {
		t.Errorf("Mod: %X", got)
	}
	if got, e := limb.Mod([]uint64{5}, []uint64{0}); len(got) != 0 || e != api.ErrLimbZero {
		t.Errorf("Mod: %X, %v", got, e)
	}
	if got := limb.Octets([]uint64{258}, 3); !bytes.Equal(got, []byte{0, 1, 2}) {
		t.Errorf("Octets: %X", got)
	}
	if got := limb.Words([]byte{1, 0, 0, 0, 0, 0, 0, 0, 2}); !slices.Equal(got, []uint64{2, 1}) {
		t.Errorf("Words: %X", got)
	}
}
