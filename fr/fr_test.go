package fr_test

import (
	"bytes"
	"math"
	"math/big"
	"math/rand"
	"slices"
	"strings"
	"testing"

	"sigil/api"
	"sigil/fr"
	"sigil/limb"
)

// size is how many words a number has.
const size = 4

// top is a word whose bits are all 1.
const top = 1<<64 - 1

// primeDigits are r, as the chapter writes it.
const primeDigits = "73EDA753 299D7D48 3339D808 09A1D805 53BDA402 FFFE5BFE FFFFFFFF 00000001"

// prime is r.
func prime() *big.Int {
	r, _ := new(big.Int).SetString(strings.ReplaceAll(primeDigits, " ", ""), 16)
	return r
}

// number is what words mean: each times 2^64's power of its place, added.
func number(words []uint64) *big.Int {
	sum := new(big.Int)
	for i := len(words) - 1; i >= 0; i-- {
		sum.Lsh(sum, 64)
		sum.Add(sum, new(big.Int).SetUint64(words[i]))
	}
	return sum
}

// four are the four words of a number below 2^256.
func four(a *big.Int) api.Fr {
	var words api.Fr
	for i := range words {
		words[i] = new(big.Int).Rsh(a, uint(64*i)).Uint64()
	}
	return words
}

// near is so many times r, and a bit more or less.
func near(times, more int64) *big.Int {
	a := new(big.Int).Mul(prime(), big.NewInt(times))
	return a.Add(a, big.NewInt(more))
}

// ones are n words whose bits are all 1.
func ones(n int) []uint64 { return slices.Repeat([]uint64{top}, n) }

// drawn are n words, many of which lie at the edges of a word.
func drawn(random *rand.Rand, n int) []uint64 {
	all := make([]uint64, n)
	for i := range all {
		switch random.Intn(8) {
		case 0:
			all[i] = 0
		case 1:
			all[i] = top
		case 2:
			all[i] = 1 << random.Intn(64)
		case 3:
			all[i] = top - uint64(random.Intn(3))
		default:
			all[i] = random.Uint64()
		}
	}
	return all
}

// samples are numbers about 0, r and 2 r, four words all 2^64 - 1, numbers about half of r, of one bit and of no nought, those that differ from r in one word, and drawn ones, below r and not.
func samples() []api.Fr {
	all := []api.Fr{{2}, {3}, {top}, {0, 1}, {0, 0, 0, 1}, api.Fr(ones(size)), {top - 1, top, top, top}, {0, top, top, top}, {3: top}, {0, 0, top, top}}
	for times := range int64(3) {
		for more := int64(-2); more <= 2; more++ {
			if a := near(times, more); a.Sign() >= 0 {
				all = append(all, four(a))
			}
		}
	}
	half := new(big.Int).Rsh(prime(), 1)
	all = append(all, four(half), four(half.Add(half, big.NewInt(1))))
	for _, bit := range []uint{63, 64, 127, 128, 191, 192, 253, 254, 255} {
		all = append(all, four(new(big.Int).Lsh(big.NewInt(1), bit)))
	}
	for at := range size {
		lower, higher := four(prime()), four(prime())
		lower[at]--
		higher[at]++
		all = append(all, lower, higher)
	}
	random := rand.New(rand.NewSource(4))
	for range 20 {
		all = append(all, api.Fr(drawn(random, size)), four(new(big.Int).Rand(random, prime())))
	}
	return all
}

// check holds an answer to a number: it is that modulo r, and below r.
func check(t *testing.T, call string, got api.Fr, want *big.Int) {
	t.Helper()
	if left := four(new(big.Int).Mod(want, prime())); got != left {
		t.Errorf("%s: %X, want %X", call, got, left)
	}
}

// pair is what a call answered, and what it should have.
type pair struct{ got, want api.Fr }

// checkAll holds answers to what they should be.
func checkAll(t *testing.T, pairs []pair) {
	t.Helper()
	for i, c := range pairs {
		if c.got != c.want {
			t.Errorf("%d: %X, want %X", i, c.got, c.want)
		}
	}
}

// P6.1: r itself, however often it is asked, whatever is done with an answer.
func TestR(t *testing.T) {
	r := fr.R()
	if r != four(prime()) {
		t.Errorf("%X", r)
	}
	clear(r[:])
	if fr.R() != four(prime()) {
		t.Errorf("asked again: %X", fr.R())
	}
}

// P6.1: numbers below r, r itself, and above it, up to four words all 2^64 - 1.
func TestReduce(t *testing.T) {
	for _, a := range samples() {
		check(t, "Reduce", fr.Reduce(a), number(a[:]))
	}
	checkAll(t, []pair{
		{fr.Reduce(api.Fr{}), api.Fr{}},
		{fr.Reduce(four(near(1, -1))), four(near(1, -1))},
		{fr.Reduce(four(near(1, 0))), api.Fr{}},
		{fr.Reduce(four(near(1, 1))), api.Fr{1}},
		{fr.Reduce(four(near(2, -1))), four(near(1, -1))},
		{fr.Reduce(four(near(2, 0))), api.Fr{}},
		{fr.Reduce(four(near(2, 5))), api.Fr{5}},
		{fr.Reduce(api.Fr(ones(size))), api.Fr{0x00000001FFFFFFFD, 0x5884B7FA00034802, 0x998C4FEFECBC4FF5, 0x1824B159ACC5056F}},
	})
	random := rand.New(rand.NewSource(5))
	for range 20000 {
		a := api.Fr(drawn(random, size))
		check(t, "Reduce", fr.Reduce(a), number(a[:]))
	}
}

// P6.1: all pairs of samples, either way round: sums and products.
func TestSumsAndProducts(t *testing.T) {
	all := samples()
	for _, a := range all {
		for _, b := range all {
			x, y := number(a[:]), number(b[:])
			check(t, "Add", fr.Add(a, b), new(big.Int).Add(x, y))
			check(t, "Mul", fr.Mul(a, b), new(big.Int).Mul(x, y))
		}
	}
}

// P6.1: sums and products of drawn numbers, below r and not.
func TestSumsAndProductsOfDrawn(t *testing.T) {
	random := rand.New(rand.NewSource(6))
	for range 20000 {
		a, b := api.Fr(drawn(random, size)), four(new(big.Int).Rand(random, prime()))
		x, y := number(a[:]), number(b[:])
		check(t, "Add", fr.Add(a, b), new(big.Int).Add(x, y))
		check(t, "Mul", fr.Mul(a, b), new(big.Int).Mul(x, y))
	}
}

// P6.1: the chapter's examples; 0, 1, r - 1, r, r + 1, 2 r and four words all 2^64 - 1 as each argument.
func TestEdgesOfSumsAndProducts(t *testing.T) {
	r, last, one, none := fr.R(), four(near(1, -1)), api.Fr{1}, api.Fr{}
	more, twice, full := four(near(1, 1)), four(near(2, 0)), api.Fr(ones(size))
	left := fr.Reduce(full)
	checkAll(t, []pair{
		{fr.Add(last, api.Fr{2}), one},
		{fr.Add(last, one), none},
		{fr.Add(one, last), none},
		{fr.Add(last, last), four(near(1, -2))},
		{fr.Add(r, r), none},
		{fr.Add(r, one), one},
		{fr.Add(none, r), none},
		{fr.Add(more, one), api.Fr{2}},
		{fr.Add(one, more), api.Fr{2}},
		{fr.Add(twice, one), one},
		{fr.Add(one, twice), one},
		{fr.Add(full, none), left},
		{fr.Add(none, full), left},
		{fr.Add(full, one), fr.Add(left, one)},
		{fr.Add(full, full), fr.Mul(left, api.Fr{2})},
		{fr.Mul(last, last), one},
		{fr.Mul(r, last), none},
		{fr.Mul(last, r), none},
		{fr.Mul(none, last), none},
		{fr.Mul(one, last), last},
		{fr.Mul(more, last), last},
		{fr.Mul(last, more), last},
		{fr.Mul(twice, full), none},
		{fr.Mul(full, twice), none},
		{fr.Mul(full, one), left},
		{fr.Mul(one, full), left},
		{fr.Mul(last, api.Fr{2}), four(near(1, -2))},
	})
}

// P6.1: 0 less a number: of 0, r and 2 r it is 0.
func TestNeg(t *testing.T) {
	for _, a := range samples() {
		check(t, "Neg", fr.Neg(a), new(big.Int).Neg(number(a[:])))
	}
	checkAll(t, []pair{
		{fr.Neg(api.Fr{}), api.Fr{}},
		{fr.Neg(fr.R()), api.Fr{}},
		{fr.Neg(four(near(2, 0))), api.Fr{}},
		{fr.Neg(api.Fr{1}), four(near(1, -1))},
		{fr.Neg(four(near(1, -1))), api.Fr{1}},
		{fr.Neg(four(near(1, 1))), four(near(1, -1))},
	})
	random := rand.New(rand.NewSource(7))
	for range 5000 {
		a := api.Fr(drawn(random, size))
		check(t, "Neg", fr.Neg(a), new(big.Int).Neg(number(a[:])))
	}
}

// checkInv holds one inverse to the library's, or to 0.
func checkInv(t *testing.T, a api.Fr) {
	t.Helper()
	want := new(big.Int)
	if left := new(big.Int).Mod(number(a[:]), prime()); left.Sign() != 0 {
		want.ModInverse(left, prime())
	}
	check(t, "Inv", fr.Inv(a), want)
}

// P6.1: inverses of samples, of 2's powers, and of drawn numbers; of 0, r and 2 r it is 0.
func TestInv(t *testing.T) {
	for _, a := range samples() {
		checkInv(t, a)
	}
	for bit := range uint(256) {
		checkInv(t, four(new(big.Int).Lsh(big.NewInt(1), bit)))
	}
	random := rand.New(rand.NewSource(8))
	for range 500 {
		checkInv(t, api.Fr(drawn(random, size)))
	}
	half := four(new(big.Int).Rsh(near(1, 1), 1))
	checkAll(t, []pair{
		{fr.Inv(api.Fr{}), api.Fr{}},
		{fr.Inv(fr.R()), api.Fr{}},
		{fr.Inv(four(near(2, 0))), api.Fr{}},
		{fr.Inv(api.Fr{1}), api.Fr{1}},
		{fr.Inv(four(near(1, 1))), api.Fr{1}},
		{fr.Inv(api.Fr{2}), half},
		{fr.Inv(half), api.Fr{2}},
		{fr.Inv(four(near(1, -1))), four(near(1, -1))},
	})
}

// checkOctets holds the number of some bytes to the library's.
func checkOctets(t *testing.T, b []byte) {
	t.Helper()
	check(t, "FromOctets", fr.FromOctets(b), new(big.Int).SetBytes(b))
}

// P6.1: no bytes, and up to several hundred: noughts, 255s, one byte among noughts, drawn ones, with noughts ahead and without.
func TestFromOctets(t *testing.T) {
	random := rand.New(rand.NewSource(9))
	for n := range 400 {
		checkOctets(t, make([]byte, n))
		checkOctets(t, bytes.Repeat([]byte{255}, n))
		b := make([]byte, n)
		for range 3 {
			random.Read(b)
			checkOctets(t, b)
			for _, ahead := range []int{1, 7, 8, 31, 300} {
				long := append(make([]byte, ahead), b...)
				checkOctets(t, long)
				if got, want := fr.FromOctets(long), fr.FromOctets(b); got != want {
					t.Errorf("%d noughts ahead of %X: %X, want %X", ahead, b, got, want)
				}
			}
		}
	}
	for n := range 70 {
		for at := range n {
			one := make([]byte, n)
			one[at] = 1
			checkOctets(t, one)
		}
	}
}

// P6.1: the chapter's example; bytes of 0, 1, r - 1, r, r + 1 and 2 r; 31, 32, 33 bytes; multiples of r in more bytes, and what is next to them.
func TestFromOctetsAtEdges(t *testing.T) {
	full := bytes.Repeat([]byte{255}, 33)
	checkAll(t, []pair{
		{fr.FromOctets([]byte{1, 0}), api.Fr{256}},
		{fr.FromOctets(nil), api.Fr{}},
		{fr.FromOctets([]byte{}), api.Fr{}},
		{fr.FromOctets([]byte{0}), api.Fr{}},
		{fr.FromOctets([]byte{1}), api.Fr{1}},
		{fr.FromOctets([]byte{9, 1, 2, 3, 4, 5, 6, 7, 8}), api.Fr{0x0102030405060708, 9}},
		{fr.FromOctets(near(1, -1).Bytes()), four(near(1, -1))},
		{fr.FromOctets(near(1, 0).Bytes()), api.Fr{}},
		{fr.FromOctets(near(1, 1).Bytes()), api.Fr{1}},
		{fr.FromOctets(near(2, 0).Bytes()), api.Fr{}},
		{fr.FromOctets(full[:31]), api.Fr{top, top, top, top >> 8}},
		{fr.FromOctets(full[:32]), fr.Reduce(api.Fr(ones(size)))},
		{fr.FromOctets(full), fr.Add(fr.Mul(fr.FromOctets(full[:32]), api.Fr{256}), api.Fr{255})},
	})
	random := rand.New(rand.NewSource(10))
	for range 1000 {
		times := number(drawn(random, 1+random.Intn(20)))
		for more := int64(-2); more <= 2; more++ {
			a := new(big.Int).Mul(times, prime())
			if a.Add(a, big.NewInt(more)); a.Sign() >= 0 {
				checkOctets(t, a.Bytes())
			}
		}
	}
}

// P6.1: a hundred thousand bytes.
func TestFromOctetsOfManyBytes(t *testing.T) {
	b := make([]byte, 100003)
	rand.New(rand.NewSource(11)).Read(b)
	checkOctets(t, b)
}

// P6.2: 32 bytes, the highest first, of a number below r and of one that is not.
func TestBytes(t *testing.T) {
	for _, a := range samples() {
		got := fr.Bytes(a)
		if want := new(big.Int).Mod(number(a[:]), prime()).FillBytes(make([]byte, 32)); !bytes.Equal(got[:], want) {
			t.Errorf("%X: %X, want %X", a, got, want)
		}
	}
	for i, c := range []struct {
		got, want [32]byte
	}{
		{fr.Bytes(api.Fr{}), [32]byte{}},
		{fr.Bytes(fr.R()), [32]byte{}},
		{fr.Bytes(four(near(2, 0))), [32]byte{}},
		{fr.Bytes(four(near(1, 258))), [32]byte{30: 1, 31: 2}},
		{fr.Bytes(api.Fr{0x0102030405060708, 0x09}), [32]byte{23: 9, 1, 2, 3, 4, 5, 6, 7, 8}},
		{fr.Bytes(four(near(1, -1))), [32]byte(near(1, -1).Bytes())},
	} {
		if c.got != c.want {
			t.Errorf("%d: %X, want %X", i, c.got, c.want)
		}
	}
}

// P6.2: bytes of numbers below r are these, and back again.
func TestFromBytes(t *testing.T) {
	for _, a := range samples() {
		b := fr.Bytes(a)
		got, e := fr.FromBytes(b[:])
		if e != api.OK || got != fr.Reduce(a) {
			t.Errorf("%X: %X, %v", b, got, e)
		}
		if back := fr.Bytes(got); back != b {
			t.Errorf("%X: back again %X", b, back)
		}
	}
	random := rand.New(rand.NewSource(12))
	for range 5000 {
		a := new(big.Int).Rand(random, prime())
		if got, e := fr.FromBytes(a.FillBytes(make([]byte, 32))); e != api.OK || got != four(a) {
			t.Errorf("%X: %X, %v", a, got, e)
		}
	}
}

// P6.2, R2: bytes that are not 32: ErrFrLen, and 0 beside it, whatever they are.
func TestFromBytesOfWrongLengths(t *testing.T) {
	var wrong [][]byte
	for n := range 200 {
		for _, x := range []byte{0, 1, 255} {
			if n != 32 {
				wrong = append(wrong, bytes.Repeat([]byte{x}, n))
			}
		}
	}
	r := prime().Bytes()
	wrong = append(wrong, nil, append([]byte{0}, r...), append(slices.Clone(r), 0), r[1:], r[:31], near(1, -1).FillBytes(make([]byte, 33)))
	for _, b := range wrong {
		if got, e := fr.FromBytes(b); e != api.ErrFrLen || got != (api.Fr{}) {
			t.Errorf("%X: %X, %v", b, got, e)
		}
	}
}

// P6.2, R2: numbers that are not below r: ErrFrRange, and 0 beside it; r - 1 is the greatest that is.
func TestFromBytesOutOfRange(t *testing.T) {
	for _, a := range samples() {
		want, wanted := a, api.OK
		if number(a[:]).Cmp(prime()) >= 0 {
			want, wanted = api.Fr{}, api.ErrFrRange
		}
		if got, e := fr.FromBytes(number(a[:]).FillBytes(make([]byte, 32))); e != wanted || got != want {
			t.Errorf("%X: %X, %v, want %X, %v", a, got, e, want, wanted)
		}
	}
	for more, wanted := range map[int64]api.Errno{-2: api.OK, -1: api.OK, 0: api.ErrFrRange, 1: api.ErrFrRange} {
		want := api.Fr{}
		if wanted == api.OK {
			want = four(near(1, more))
		}
		if got, e := fr.FromBytes(near(1, more).Bytes()); e != wanted || got != want {
			t.Errorf("r and %d: %X, %v, want %X, %v", more, got, e, want, wanted)
		}
	}
	if got, e := fr.FromBytes(bytes.Repeat([]byte{255}, 32)); e != api.ErrFrRange || got != (api.Fr{}) {
		t.Errorf("32 bytes 255: %X, %v", got, e)
	}
}

// The errors' numbers are the chapter's.
func TestErrorNumbers(t *testing.T) {
	if api.ErrArg != 1 || api.ErrFrLen != 60 || api.ErrFrRange != 61 {
		t.Errorf("%d, %d, %d", int(api.ErrArg), int(api.ErrFrLen), int(api.ErrFrRange))
	}
}

// checkWindows holds a number's digits of one width to P6.3 and P6.4: each is in its range, the last is not 0, and they make the number. There is but one such list, so that it is these.
func checkWindows(t *testing.T, a []uint64, width int) {
	t.Helper()
	digits, e := fr.Windows(a, width)
	if e != api.OK {
		t.Errorf("%X, %d: %v", a, width, e)
	}
	sum, half := new(big.Int), 1<<(width-1)
	for _, digit := range slices.Backward(digits) {
		if digit <= -half || digit > half {
			t.Errorf("%X, %d: digit %d", a, width, digit)
		}
		sum.Lsh(sum, uint(width))
		sum.Add(sum, big.NewInt(int64(digit)))
	}
	if len(digits) > 0 && digits[len(digits)-1] == 0 {
		t.Errorf("%X, %d: the last of %v is 0", a, width, digits)
	}
	if sum.Cmp(number(a)) != 0 {
		t.Errorf("%X, %d: %v, which make %X", a, width, digits, sum)
	}
}

// repeated is a list of digits: so many times the one, and then others.
func repeated(times, digit int, others ...int) []int {
	return append(slices.Repeat([]int{digit}, times), others...)
}

// P6.3: the chapter's examples; digits that are just half of the base, one less and one more; a carry through many digits; highest digits that carry one more, and such that just do not.
func TestWindowsOfExamples(t *testing.T) {
	for _, c := range []struct {
		a     []uint64
		width int
		want  []int
	}{
		{[]uint64{7}, 2, []int{-1, 2}},
		{[]uint64{6}, 2, []int{2, 1}},
		{[]uint64{2}, 2, []int{2}},
		{[]uint64{3}, 2, []int{-1, 1}},
		{[]uint64{11}, 2, []int{-1, -1, 1}},
		{[]uint64{10}, 2, []int{2, 2}},
		{[]uint64{15}, 2, []int{-1, 0, 1}},
		{[]uint64{1}, 8, []int{1}},
		{[]uint64{127}, 8, []int{127}},
		{[]uint64{128}, 8, []int{128}},
		{[]uint64{129}, 8, []int{-127, 1}},
		{[]uint64{255}, 8, []int{-1, 1}},
		{[]uint64{0x8080}, 8, []int{128, 128}},
		{[]uint64{0x8081}, 8, []int{-127, -127, 1}},
		{[]uint64{0x88}, 4, []int{8, 8}},
		{[]uint64{0x89}, 4, []int{-7, -7, 1}},
		{[]uint64{0x79}, 4, []int{-7, 8}},
		{[]uint64{7}, 3, []int{-1, 1}},
		{[]uint64{0, 1}, 8, repeated(8, 0, 1)},
		{[]uint64{15, 0}, 4, []int{-1, 1}},
		{[]uint64{top}, 2, []int{-1, 31: 0, 32: 1}},
		{[]uint64{top}, 3, []int{-1, 20: 0, 21: 2}},
		{[]uint64{top}, 8, []int{-1, 7: 0, 8: 1}},
		{[]uint64{top, top}, 8, []int{-1, 15: 0, 16: 1}},
		{[]uint64{0x8888888888888888}, 4, repeated(16, 8)},
		{[]uint64{0x8888888888888889}, 4, repeated(16, -7, 1)},
		{[]uint64{0xAAAAAAAAAAAAAAAA, 0xAAAAAAAAAAAAAAAA}, 2, repeated(64, 2)},
		{[]uint64{1 << 63}, 3, repeated(21, 0, 1)},
		{[]uint64{1 << 63, 3}, 3, []int{21: -1, 22: 1}},
	} {
		if got, e := fr.Windows(c.a, c.width); e != api.OK || !slices.Equal(got, c.want) {
			t.Errorf("%X, %d: %v, %v, want %v", c.a, c.width, got, e, c.want)
		}
		checkWindows(t, c.a, c.width)
	}
}

// P6.3: of 0 there are no digits: of no words, and of words that are all 0.
func TestWindowsOfNothing(t *testing.T) {
	for width := 2; width <= 8; width++ {
		for _, a := range [][]uint64{nil, {}, {0}, {0, 0}, make([]uint64, 100)} {
			if got, e := fr.Windows(a, width); e != api.OK || len(got) != 0 {
				t.Errorf("%d words, %d: %v, %v", len(a), width, got, e)
			}
		}
	}
}

// P6.3, R2: a width that is not 2 to 8: ErrArg, and no digits beside it, whatever the number.
func TestWindowsOfWrongWidths(t *testing.T) {
	widths := []int{1, 0, 9, -1, -2, -8, -64, 10, 16, 63, 64, 65, 66, 128, 258, math.MaxInt32, math.MinInt32, math.MaxInt, math.MinInt, math.MinInt + 2}
	for _, width := range widths {
		for _, a := range [][]uint64{nil, {0}, {5}, {top, top}, make([]uint64, 50)} {
			if got, e := fr.Windows(a, width); e != api.ErrArg || len(got) != 0 {
				t.Errorf("%X, %d: %v, %v", a, width, got, e)
			}
		}
	}
}

// P6.3, P6.4: small numbers, all of them, at each width.
func TestWindowsOfSmallNumbers(t *testing.T) {
	for width := 2; width <= 8; width++ {
		for a := range uint64(5000) {
			checkWindows(t, []uint64{a}, width)
		}
	}
}

// P6.3, P6.4: about each of 2's powers, where the length changes, and about the numbers whose digits are all half of the base, at each width; with noughts at the top they have the same digits.
func TestWindowsAboutPowers(t *testing.T) {
	around := func(a *big.Int, width int) {
		for more := int64(-2); more <= 2; more++ {
			b := new(big.Int).Add(a, big.NewInt(more))
			if b.Sign() < 0 {
				continue
			}
			w := four(b)
			checkWindows(t, w[:], width)
			got, _ := fr.Windows(w[:], width)
			long, _ := fr.Windows(append(w[:], 0, 0, 0), width)
			if !slices.Equal(got, long) {
				t.Errorf("%X, %d: noughts at the top change %v to %v", w, width, got, long)
			}
		}
	}
	for width := 2; width <= 8; width++ {
		halves := new(big.Int)
		for bit := range uint(256) {
			around(new(big.Int).Lsh(big.NewInt(1), bit), width)
			if bit%uint(width) == uint(width)-1 {
				halves.SetBit(halves, int(bit), 1)
				around(halves, width)
			}
		}
	}
}

// P6.3, P6.4: a limb number is taken as it is, not modulo r: r itself, what is about it and 2 r, four words all 2^64 - 1, and numbers of up to thirty words.
func TestWindowsOfSamples(t *testing.T) {
	random := rand.New(rand.NewSource(13))
	for width := 2; width <= 8; width++ {
		for _, a := range samples() {
			checkWindows(t, a[:], width)
		}
		for n := range 30 {
			checkWindows(t, ones(n), width)
			for range 30 {
				checkWindows(t, drawn(random, n), width)
				checkWindows(t, append(drawn(random, n), 0, 0), width)
			}
		}
		checkWindows(t, drawn(random, 2000), width)
	}
}

// P6.4: orders and brackets do not matter, products are distributive; opposites add up to 0.
func TestField(t *testing.T) {
	all := samples()
	random := rand.New(rand.NewSource(14))
	for range 5000 {
		a, b, c := all[random.Intn(len(all))], all[random.Intn(len(all))], all[random.Intn(len(all))]
		for law, sides := range map[string][2]api.Fr{
			"sums' order":       {fr.Add(a, b), fr.Add(b, a)},
			"sums' brackets":    {fr.Add(fr.Add(a, b), c), fr.Add(a, fr.Add(b, c))},
			"products' order":   {fr.Mul(a, b), fr.Mul(b, a)},
			"their brackets":    {fr.Mul(fr.Mul(a, b), c), fr.Mul(a, fr.Mul(b, c))},
			"distribution":      {fr.Mul(fr.Add(a, b), c), fr.Add(fr.Mul(a, c), fr.Mul(b, c))},
			"nothing added":     {fr.Add(a, api.Fr{}), fr.Reduce(a)},
			"times one":         {fr.Mul(a, api.Fr{1}), fr.Reduce(a)},
			"opposites":         {fr.Add(a, fr.Neg(a)), {}},
			"opposites' own":    {fr.Neg(fr.Neg(a)), fr.Reduce(a)},
			"opposite products": {fr.Mul(fr.Neg(a), b), fr.Neg(fr.Mul(a, b))},
		} {
			if sides[0] != sides[1] {
				t.Errorf("%s: %X, %X, %X: %X and %X", law, a, b, c, sides[0], sides[1])
			}
		}
	}
}

// P6.4: a number's product with its inverse is 1, but for 0; an inverse's inverse is the number; inverses of products are the inverses' products.
func TestInverses(t *testing.T) {
	before := api.Fr{1}
	for _, a := range samples() {
		inverse, want := fr.Inv(a), api.Fr{1}
		if fr.Reduce(a) == (api.Fr{}) {
			want = api.Fr{}
		}
		if got := fr.Mul(a, inverse); got != want {
			t.Errorf("%X and its inverse %X: %X", a, inverse, got)
		}
		if got := fr.Inv(inverse); got != fr.Reduce(a) {
			t.Errorf("%X's inverse's inverse: %X", a, got)
		}
		if got := fr.Inv(fr.Mul(a, before)); got != fr.Mul(inverse, fr.Inv(before)) {
			t.Errorf("%X and %X: their product's inverse is %X", a, before, got)
		}
		before = a
	}
}

// P6.4: a number is its digits, each times its base's power, added, as the field reckons it too.
func TestDigitsInTheField(t *testing.T) {
	for _, a := range samples() {
		for width := 2; width <= 8; width++ {
			digits, _ := fr.Windows(a[:], width)
			sum, power := api.Fr{}, api.Fr{1}
			for _, digit := range digits {
				part := api.Fr{uint64(max(digit, -digit))}
				if digit < 0 {
					part = fr.Neg(part)
				}
				sum = fr.Add(sum, fr.Mul(part, power))
				power = fr.Mul(power, api.Fr{1 << width})
			}
			if sum != fr.Reduce(a) {
				t.Errorf("%X, %d: %v, which make %X", a, width, digits, sum)
			}
		}
	}
}

// R4, R5: words that are handed in stay as they were, spare room too, and are not kept; the digits are memory of their own, spare room too.
func TestWordsAreNeitherChangedNorKept(t *testing.T) {
	random := rand.New(rand.NewSource(15))
	for n := range 20 {
		room := drawn(random, n+8)
		before := slices.Clone(room)
		first, _ := fr.Windows(room[:n], 5)
		if !slices.Equal(room, before) {
			t.Errorf("%d words are changed", n)
		}
		kept := slices.Clone(first)
		for i := range room {
			room[i] ^= top
		}
		second, _ := fr.Windows(before[:n], 5)
		if !slices.Equal(first, kept) || !slices.Equal(second, kept) {
			t.Errorf("%d words: %v, and then %v, and asked again %v", n, kept, first, second)
		}
		clear(first[:cap(first)])
		if !slices.Equal(second, kept) {
			t.Errorf("%d words: two answers share memory", n)
		}
	}
}

// R4, R5: bytes that are handed in stay as they were, spare room too, and are not kept; numbers that were answered stay as they are.
func TestBytesAreNeitherChangedNorKept(t *testing.T) {
	calls := map[string]func(b []byte) api.Fr{
		"FromOctets": fr.FromOctets,
		"FromBytes":  func(b []byte) api.Fr { a, _ := fr.FromBytes(b); return a },
	}
	for name, call := range calls {
		for n := range 80 {
			room := make([]byte, n+8)
			for i := range room {
				room[i] = byte(7*i + 1)
			}
			before := slices.Clone(room)
			first := call(room[:n])
			if !bytes.Equal(room, before) {
				t.Errorf("%s of %d bytes changed them", name, n)
			}
			clear(room)
			if again := call(before[:n]); again != first {
				t.Errorf("%s of %d bytes: %X, and then %X", name, n, first, again)
			}
		}
	}
}

// R5: asked again, in whatever order, and with other words for the same number modulo r, a call answers the same.
func TestAnswersHangOnTheNumberAlone(t *testing.T) {
	type answer struct {
		reduced, sum, neg, product, inverse api.Fr
		bytes                               [32]byte
	}
	ask := func(a api.Fr) answer {
		b := api.Fr{5, top, 7, top}
		return answer{fr.Reduce(a), fr.Add(a, b), fr.Neg(a), fr.Mul(b, a), fr.Inv(a), fr.Bytes(a)}
	}
	all := samples()
	first := make([]answer, len(all))
	for i, a := range all {
		first[i] = ask(a)
	}
	r := fr.R()
	for i := len(all) - 1; i >= 0; i-- {
		if again := ask(all[i]); again != first[i] {
			t.Errorf("%X: %X, and asked again %X", all[i], first[i], again)
		}
		reduced := fr.Reduce(all[i])
		other, _ := limb.Add(reduced[:], r[:])
		if got := ask(api.Fr(other)); got != first[i] {
			t.Errorf("%X: %X, and with r added %X", all[i], first[i], got)
		}
	}
}
