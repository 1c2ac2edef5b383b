package fp_test

import (
	"bytes"
	"encoding/hex"
	"math/big"
	"math/rand"
	"slices"
	"strings"
	"testing"

	"sigil/api"
	"sigil/fp"
	"sigil/limb"
)

// size is how many words a number has.
const size = 6

// top is a word whose bits are all 1.
const top = 1<<64 - 1

// primeDigits are p, as the chapter writes it.
const primeDigits = "1A0111EA 397FE69A 4B1BA7B6 434BACD7 64774B84 F38512BF 6730D2A0 F6B0F624 1EABFFFE B153FFFF B9FEFFFF FFFFAAAB"

// prime is p.
func prime() *big.Int {
	p, _ := new(big.Int).SetString(strings.ReplaceAll(primeDigits, " ", ""), 16)
	return p
}

// number is what words mean: each times 2^64's power of its place, added.
func number(words []uint64) *big.Int {
	sum := new(big.Int)
	for i := len(words) - 1; i >= 0; i-- {
		sum.Lsh(sum, 64)
		sum.Add(sum, new(big.Int).SetUint64(words[i]))
	}
	return sum
}

// words are n words of a number that they hold.
func words(a *big.Int, n int) []uint64 {
	all := make([]uint64, n)
	for i := range all {
		all[i] = new(big.Int).Rsh(a, uint(64*i)).Uint64()
	}
	return all
}

// six are the six words of a number below 2^384.
func six(a *big.Int) api.Fp { return api.Fp(words(a, size)) }

// near is so many times p, and a bit more or less.
func near(times int64, more int64) *big.Int {
	a := new(big.Int).Mul(prime(), big.NewInt(times))
	return a.Add(a, big.NewInt(more))
}

// ones are n words whose bits are all 1.
func ones(n int) []uint64 { return slices.Repeat([]uint64{top}, n) }

// drawn are n words, many of which lie at the edges of a word.
func drawn(random *rand.Rand, n int) []uint64 {
	all := make([]uint64, n)
	for i := range all {
		switch random.Intn(8) {
		case 0:
			all[i] = 0
		case 1:
			all[i] = top
		case 2:
			all[i] = 1 << random.Intn(64)
		case 3:
			all[i] = top - uint64(random.Intn(3))
		default:
			all[i] = random.Uint64()
		}
	}
	return all
}

// samples are numbers about 0 and about all multiples of p that six words hold, those of one bit and of no nought, those that have p's highest words, and drawn ones, below p and not.
func samples() []api.Fp {
	all := []api.Fp{{2}, {3}, {top}, {0, 1}, {0, 0, 0, 1}, api.Fp(ones(size)), {top - 1, top, top, top, top, top}, {0, top, top, top, top, top}, {5: top}, {5: 1 << 63}, {0, 0, top, top}}
	for times := range int64(10) {
		for more := int64(-2); more <= 2; more++ {
			if a := near(times, more); a.Sign() >= 0 {
				all = append(all, six(a))
			}
		}
	}
	half := new(big.Int).Rsh(prime(), 1)
	all = append(all, six(half), six(half.Add(half, big.NewInt(1))))
	for _, bit := range []uint{63, 64, 127, 128, 319, 320, 379, 380, 381, 382, 383} {
		all = append(all, six(new(big.Int).Lsh(big.NewInt(1), bit)))
	}
	for at := range size {
		lower, higher := six(prime()), six(prime())
		lower[at]--
		higher[at]++
		all = append(all, lower, higher)
	}
	random := rand.New(rand.NewSource(4))
	for range 20 {
		all = append(all, api.Fp(drawn(random, size)), six(new(big.Int).Rand(random, prime())))
	}
	return all
}

// remains is a number modulo p: what the library leaves of it.
func remains(a *big.Int) api.Fp { return six(new(big.Int).Mod(a, prime())) }

// check holds an answer to a number: it is that modulo p, and below p.
func check(t *testing.T, call string, got api.Fp, want *big.Int) {
	t.Helper()
	if got != remains(want) {
		t.Errorf("%s: %X, want %X", call, got, remains(want))
	}
}

// P4.1: p itself, however often it is asked, whatever is done with an answer.
func TestP(t *testing.T) {
	p := fp.P()
	if p != six(prime()) {
		t.Errorf("%X", p)
	}
	for i := range p {
		p[i] = 0
	}
	if fp.P() != six(prime()) {
		t.Errorf("asked again: %X", fp.P())
	}
}

// P4.1: numbers below p, just p, and above it, up to six words all 2^64 - 1.
func TestReduce(t *testing.T) {
	for _, a := range samples() {
		check(t, "Reduce", fp.Reduce(a), number(a[:]))
	}
	for _, c := range []struct{ a, want api.Fp }{
		{api.Fp{}, api.Fp{}},
		{six(near(1, -1)), six(near(1, -1))},
		{six(near(1, 0)), api.Fp{}},
		{six(near(1, 1)), api.Fp{1}},
		{six(near(2, 0)), api.Fp{}},
		{six(near(9, 0)), api.Fp{}},
		{six(near(9, -1)), six(near(1, -1))},
		{six(near(9, 5)), api.Fp{5}},
	} {
		if got := fp.Reduce(c.a); got != c.want {
			t.Errorf("%X: %X, want %X", c.a, got, c.want)
		}
	}
}

// P4.1: numbers of all highest words, about that of p's multiples and elsewhere.
func TestReduceOfDrawn(t *testing.T) {
	random := rand.New(rand.NewSource(5))
	for range 20000 {
		a := api.Fp(drawn(random, size))
		check(t, "Reduce", fp.Reduce(a), number(a[:]))
		b := six(near(random.Int63n(9), random.Int63n(5)))
		check(t, "Reduce", fp.Reduce(b), number(b[:]))
	}
}

// P4.1: no words, fewer than six, six, and more: noughts, noughts but for one word, all 2^64 - 1, drawn ones.
func TestWide(t *testing.T) {
	random := rand.New(rand.NewSource(6))
	for n := range 32 {
		check(t, "Wide of noughts", fp.Wide(make([]uint64, n)), new(big.Int))
		check(t, "Wide of ones", fp.Wide(ones(n)), number(ones(n)))
		for at := range n {
			one := make([]uint64, n)
			one[at] = 1
			check(t, "Wide of one 1", fp.Wide(one), number(one))
			one[at] = top
			check(t, "Wide of one word", fp.Wide(one), number(one))
		}
		for range 200 {
			w := drawn(random, n)
			check(t, "Wide", fp.Wide(w), number(w))
		}
	}
	for _, w := range [][]uint64{nil, {}, {0}, {0, 0, 0, 0, 0, 0, 0}} {
		if got := fp.Wide(w); got != (api.Fp{}) {
			t.Errorf("%X: %X", w, got)
		}
	}
	if got := fp.Wide([]uint64{7, 0, 0, 0, 0, 0, 0, 0}); got != (api.Fp{7}) {
		t.Errorf("7 and noughts: %X", got)
	}
}

// P4.1: numbers just below, at and above multiples of p, of all lengths, where a quotient that is guessed wrong would show.
func TestWideAboutMultiples(t *testing.T) {
	random := rand.New(rand.NewSource(7))
	for range 4000 {
		times := number(drawn(random, 1+random.Intn(12)))
		for more := int64(-2); more <= 2; more++ {
			a := new(big.Int).Mul(times, prime())
			if a.Add(a, big.NewInt(more)); a.Sign() >= 0 {
				check(t, "Wide", fp.Wide(words(a, 18)), a)
			}
		}
	}
}

// P4.1: thousands of words, as limb leaves them.
func TestWideOfLongNumbers(t *testing.T) {
	random := rand.New(rand.NewSource(8))
	p := fp.P()
	for _, n := range []int{100, 999, 1000, 5001} {
		for _, w := range [][]uint64{ones(n), drawn(random, n)} {
			if left, _ := limb.Mod(w, p[:]); fp.Wide(w) != api.Fp(left) {
				t.Errorf("%d words: %X, want %X", n, fp.Wide(w), left)
			}
		}
	}
}

// P4.2: all pairs of samples, either way round: sums, differences, products.
func TestSumsDifferencesAndProducts(t *testing.T) {
	all := samples()
	for _, a := range all {
		for _, b := range all {
			x, y := number(a[:]), number(b[:])
			check(t, "Add", fp.Add(a, b), new(big.Int).Add(x, y))
			check(t, "Sub", fp.Sub(a, b), new(big.Int).Sub(x, y))
			check(t, "Mul", fp.Mul(a, b), new(big.Int).Mul(x, y))
		}
	}
}

// P4.2: drawn numbers, below p and not.
func TestSumsDifferencesAndProductsOfDrawn(t *testing.T) {
	random := rand.New(rand.NewSource(9))
	for range 20000 {
		a, b := api.Fp(drawn(random, size)), six(new(big.Int).Rand(random, prime()))
		x, y := number(a[:]), number(b[:])
		check(t, "Add", fp.Add(a, b), new(big.Int).Add(x, y))
		check(t, "Sub", fp.Sub(a, b), new(big.Int).Sub(x, y))
		check(t, "Sub", fp.Sub(b, a), new(big.Int).Sub(y, x))
		check(t, "Mul", fp.Mul(a, b), new(big.Int).Mul(x, y))
	}
}

// P4.2: sums and differences at p's edges, and products of numbers with few bits, whose words are carried on and not.
func TestEdgesOfSums(t *testing.T) {
	p, last, one, none := fp.P(), six(near(1, -1)), api.Fp{1}, api.Fp{}
	for i, c := range []struct{ got, want api.Fp }{
		{fp.Add(last, one), none},
		{fp.Add(one, last), none},
		{fp.Add(last, last), six(near(1, -2))},
		{fp.Add(p, p), none},
		{fp.Add(p, one), one},
		{fp.Add(none, p), none},
		{fp.Sub(none, one), last},
		{fp.Sub(none, p), none},
		{fp.Sub(p, none), none},
		{fp.Sub(p, one), last},
		{fp.Sub(one, p), one},
		{fp.Sub(last, last), none},
		{fp.Sub(none, last), one},
		{fp.Mul(last, last), one},
		{fp.Mul(p, last), none},
		{fp.Mul(last, p), none},
		{fp.Mul(none, last), none},
		{fp.Mul(one, last), last},
		{fp.Mul(last, api.Fp{2}), six(near(1, -2))},
	} {
		if c.got != c.want {
			t.Errorf("%d: %X, want %X", i, c.got, c.want)
		}
	}
}

// P4.2: 0 less a number: of 0, p and its multiples 0.
func TestNeg(t *testing.T) {
	for _, a := range samples() {
		check(t, "Neg", fp.Neg(a), new(big.Int).Neg(number(a[:])))
	}
	for times := range int64(10) {
		if got := fp.Neg(six(near(times, 0))); got != (api.Fp{}) {
			t.Errorf("of %d p: %X", times, got)
		}
	}
	if got := fp.Neg(api.Fp{1}); got != six(near(1, -1)) {
		t.Errorf("of 1: %X", got)
	}
}

// checkInv holds one inverse against the library's, or to 0.
func checkInv(t *testing.T, a api.Fp) {
	t.Helper()
	want := new(big.Int)
	if left := new(big.Int).Mod(number(a[:]), prime()); left.Sign() != 0 {
		want.ModInverse(left, prime())
	}
	check(t, "Inv", fp.Inv(a), want)
}

// P4.2: inverses: of samples; of 2's powers, whose halves are many at once; of numbers with noughts below; of drawn ones.
func TestInv(t *testing.T) {
	for _, a := range samples() {
		checkInv(t, a)
	}
	for bit := range uint(384) {
		power := new(big.Int).Lsh(big.NewInt(1), bit)
		checkInv(t, six(power))
		checkInv(t, remains(new(big.Int).Neg(power)))
		checkInv(t, remains(new(big.Int).Sub(power, big.NewInt(1))))
		checkInv(t, fp.Inv(six(power)))
	}
	random := rand.New(rand.NewSource(10))
	for range 5000 {
		a := api.Fp(drawn(random, size))
		checkInv(t, a)
		clear(a[:random.Intn(size)])
		checkInv(t, a)
	}
}

// P4.2: inverses at the edges: of 0 and all that p divides 0.
func TestInvEdges(t *testing.T) {
	for times := range int64(10) {
		if got := fp.Inv(six(near(times, 0))); got != (api.Fp{}) {
			t.Errorf("of %d p: %X", times, got)
		}
	}
	half := new(big.Int).Rsh(near(1, 1), 1)
	for i, c := range []struct{ got, want api.Fp }{
		{fp.Inv(api.Fp{1}), api.Fp{1}},
		{fp.Inv(api.Fp{2}), six(half)},
		{fp.Inv(six(half)), api.Fp{2}},
		{fp.Inv(six(near(1, -1))), six(near(1, -1))},
		{fp.Inv(six(near(1, 1))), api.Fp{1}},
		{fp.Inv(six(near(8, 2))), six(half)},
	} {
		if c.got != c.want {
			t.Errorf("%d: %X, want %X", i, c.got, c.want)
		}
	}
}

// exponents are those of no word, of noughts, small ones with noughts at their tops and without, those about p - 1 and its multiples, and drawn ones of up to nine words.
func exponents() [][]uint64 {
	all := [][]uint64{nil, {}, {0}, {0, 0, 0}, make([]uint64, 9), {1}, {1, 0}, {1, 0, 0, 0, 0, 0, 0, 0}, {2}, {3}, {5}, {15}, {16}, {17}, {5, 0, 0}, {0, 1}, {0, 0, 1}, {1 << 60}, {1 << 63}, {top}, ones(6), ones(7), ones(20), append(make([]uint64, 6), 1)}
	for more := int64(-3); more <= 1; more++ {
		all = append(all, words(near(1, more), 6), words(near(1, more), 8), words(near(7, 7*more), 6))
	}
	square := near(1, -1)
	square.Mul(square, near(1, -1))
	all = append(all, words(square, 12), words(square.Add(square, big.NewInt(1)), 13))
	random := rand.New(rand.NewSource(11))
	for n := 1; n <= 9; n++ {
		all = append(all, drawn(random, n), append(drawn(random, n), 0, 0))
	}
	return all
}

// P4.2: powers of samples, against the library's.
func TestPow(t *testing.T) {
	all := samples()
	for i, e := range exponents() {
		for j, a := range all {
			if (i+j)%4 == 0 {
				check(t, "Pow", fp.Pow(a, e), new(big.Int).Exp(number(a[:]), number(e), prime()))
			}
		}
	}
	if got := fp.Pow(api.Fp{3}, []uint64{5}); got != (api.Fp{243}) {
		t.Errorf("3's of 5: %X", got)
	}
}

// P4.2: the power of 0 is 1, of 0 too; another one of 0 is 0, though p - 1 divides it; and so it is of numbers that p divides.
func TestPowEdges(t *testing.T) {
	for _, e := range exponents() {
		want := api.Fp{}
		if number(e).Sign() == 0 {
			want = api.Fp{1}
			for _, a := range samples() {
				if got := fp.Pow(a, e); got != want {
					t.Errorf("%X's of %X: %X", a, e, got)
				}
			}
		}
		for times := range int64(10) {
			if got := fp.Pow(six(near(times, 0)), e); got != want {
				t.Errorf("%d p's of %X: %X, want %X", times, e, got, want)
			}
		}
		if got := fp.Pow(six(near(3, 1)), e); got != (api.Fp{1}) {
			t.Errorf("1's of %X: %X", e, got)
		}
	}
}

// P4.2: noughts at an exponent's top change nothing; exponents of thousands of words, and their end.
func TestPowOfLongExponents(t *testing.T) {
	random := rand.New(rand.NewSource(12))
	for _, n := range []int{5, 6, 7, 50, 3000} {
		a, e := api.Fp(drawn(random, size)), drawn(random, n)
		got := fp.Pow(a, e)
		if n < 100 {
			check(t, "Pow", got, new(big.Int).Exp(number(a[:]), number(e), prime()))
		}
		if long := fp.Pow(a, append(slices.Clone(e), make([]uint64, 9)...)); long != got {
			t.Errorf("%d words: noughts at the top change the power", n)
		}
		if want := fp.Pow(fp.Pow(a, e), []uint64{2}); fp.Mul(got, got) != want {
			t.Errorf("%d words: %X, want %X", n, fp.Mul(got, got), want)
		}
		one, _ := limb.Add(append(slices.Clone(e), 0), []uint64{1})
		if want := fp.Pow(a, one); fp.Mul(got, a) != want {
			t.Errorf("%d words and 1: %X, want %X", n, fp.Mul(got, a), want)
		}
	}
}

// P4.3: 48 bytes, the highest first, of a number below p and of one that is not.
func TestBytes(t *testing.T) {
	for _, a := range samples() {
		got := fp.Bytes(a)
		if want := new(big.Int).Mod(number(a[:]), prime()).FillBytes(make([]byte, 48)); !bytes.Equal(got[:], want) {
			t.Errorf("%X: %X, want %X", a, got, want)
		}
	}
	for i, c := range []struct {
		got, want [48]byte
	}{
		{fp.Bytes(api.Fp{}), [48]byte{}},
		{fp.Bytes(six(near(1, 0))), [48]byte{}},
		{fp.Bytes(six(near(1, 258))), [48]byte{46: 1, 47: 2}},
		{fp.Bytes(api.Fp{0x0102030405060708, 0x09}), [48]byte{39: 9, 1, 2, 3, 4, 5, 6, 7, 8}},
	} {
		if c.got != c.want {
			t.Errorf("%d: %X, want %X", i, c.got, c.want)
		}
	}
	last := fp.Bytes(six(near(1, -1)))
	if want := strings.ToLower(strings.ReplaceAll(primeDigits, " ", "")); hex.EncodeToString(last[:47]) != want[:94] || last[47] != 0xAA {
		t.Errorf("p - 1: %X", last)
	}
}

// P4.3: bytes of numbers below p are these, and back again.
func TestFromBytes(t *testing.T) {
	for _, a := range samples() {
		b := fp.Bytes(a)
		got, e := fp.FromBytes(b[:])
		if e != api.OK || got != fp.Reduce(a) {
			t.Errorf("%X: %X, %v", b, got, e)
		}
		if back := fp.Bytes(got); back != b {
			t.Errorf("%X: back again %X", b, back)
		}
	}
	random := rand.New(rand.NewSource(13))
	for range 5000 {
		a := new(big.Int).Rand(random, prime())
		if got, e := fp.FromBytes(a.FillBytes(make([]byte, 48))); e != api.OK || got != six(a) {
			t.Errorf("%X: %X, %v", a, got, e)
		}
	}
}

// P4.3, R2: bytes that are not 48: ErrFpLen, and 0 beside it, whatever they are.
func TestFromBytesOfWrongLengths(t *testing.T) {
	for n := range 200 {
		for _, x := range []byte{0, 1, 255} {
			b := bytes.Repeat([]byte{x}, n)
			if got, e := fp.FromBytes(b); n != 48 && (e != api.ErrFpLen || got != (api.Fp{})) {
				t.Errorf("%d bytes %d: %X, %v", n, x, got, e)
			}
		}
	}
	if got, e := fp.FromBytes(nil); e != api.ErrFpLen || got != (api.Fp{}) {
		t.Errorf("no bytes: %X, %v", got, e)
	}
	p := prime().Bytes()
	for _, b := range [][]byte{append([]byte{0}, p...), append(slices.Clone(p), 0), p[1:], p[:47]} {
		if got, e := fp.FromBytes(b); e != api.ErrFpLen || got != (api.Fp{}) {
			t.Errorf("%X: %X, %v", b, got, e)
		}
	}
}

// P4.3, R2: numbers that are not below p: ErrFpRange, and 0 beside it; p - 1 is the greatest that is.
func TestFromBytesOutOfRange(t *testing.T) {
	for _, a := range samples() {
		b := number(a[:]).FillBytes(make([]byte, 48))
		want, wanted := a, api.OK
		if number(a[:]).Cmp(prime()) >= 0 {
			want, wanted = api.Fp{}, api.ErrFpRange
		}
		if got, e := fp.FromBytes(b); e != wanted || got != want {
			t.Errorf("%X: %X, %v, want %X, %v", b, got, e, want, wanted)
		}
	}
	for more, want := range map[int64]api.Errno{-1: api.OK, 0: api.ErrFpRange, 1: api.ErrFpRange} {
		if _, e := fp.FromBytes(near(1, more).Bytes()); e != want {
			t.Errorf("p and %d: %v, want %v", more, e, want)
		}
	}
	if got, e := fp.FromBytes(bytes.Repeat([]byte{255}, 48)); e != api.ErrFpRange || got != (api.Fp{}) {
		t.Errorf("48 bytes 255: %X, %v", got, e)
	}
}

// The errors' numbers are the chapter's.
func TestErrorNumbers(t *testing.T) {
	if api.ErrFpLen != 40 || api.ErrFpRange != 41 {
		t.Errorf("%d, %d", int(api.ErrFpLen), int(api.ErrFpRange))
	}
}

// P4.4: orders and brackets do not matter, products are distributive; what is added is taken away, what is multiplied divided.
func TestField(t *testing.T) {
	all := samples()
	random := rand.New(rand.NewSource(14))
	for range 20000 {
		a, b, c := all[random.Intn(len(all))], all[random.Intn(len(all))], all[random.Intn(len(all))]
		for law, sides := range map[string][2]api.Fp{
			"sums' order":       {fp.Add(a, b), fp.Add(b, a)},
			"sums' brackets":    {fp.Add(fp.Add(a, b), c), fp.Add(a, fp.Add(b, c))},
			"products' order":   {fp.Mul(a, b), fp.Mul(b, a)},
			"their brackets":    {fp.Mul(fp.Mul(a, b), c), fp.Mul(a, fp.Mul(b, c))},
			"distribution":      {fp.Mul(fp.Add(a, b), c), fp.Add(fp.Mul(a, c), fp.Mul(b, c))},
			"differences":       {fp.Add(fp.Sub(a, b), b), fp.Reduce(a)},
			"opposites":         {fp.Add(a, fp.Neg(b)), fp.Sub(a, b)},
			"opposites' own":    {fp.Neg(fp.Neg(a)), fp.Reduce(a)},
			"opposite products": {fp.Mul(fp.Neg(a), b), fp.Neg(fp.Mul(a, b))},
		} {
			if sides[0] != sides[1] {
				t.Errorf("%s: %X, %X, %X: %X and %X", law, a, b, c, sides[0], sides[1])
			}
		}
	}
}

// P4.4: a number's power of p is itself, and, but for 0, its product with its inverse 1; inverses of products are the inverses' products.
func TestPowersOfPAndInverses(t *testing.T) {
	p, less := fp.P(), six(near(1, -2))
	before := api.Fp{1}
	for _, a := range samples() {
		if got := fp.Pow(a, p[:]); got != fp.Reduce(a) {
			t.Errorf("%X's power of p: %X", a, got)
		}
		inverse := fp.Inv(a)
		if got := fp.Pow(a, less[:]); got != inverse {
			t.Errorf("%X's power of p - 2: %X, and its inverse %X", a, got, inverse)
		}
		want := api.Fp{1}
		if fp.Reduce(a) == (api.Fp{}) {
			want = api.Fp{}
		}
		if got := fp.Mul(a, inverse); got != want {
			t.Errorf("%X and its inverse %X: %X", a, inverse, got)
		}
		if got := fp.Inv(fp.Mul(a, before)); got != fp.Mul(inverse, fp.Inv(before)) {
			t.Errorf("%X and %X: their product's inverse is %X", a, before, got)
		}
		before = a
	}
}

// P4.2, P4.4: powers of sums are powers' products, those of products powers' powers, as limb reckons them.
func TestPowersOfSums(t *testing.T) {
	random := rand.New(rand.NewSource(15))
	for range 200 {
		a := api.Fp(drawn(random, size))
		e, f := drawn(random, 1+random.Intn(8)), drawn(random, 1+random.Intn(8))
		sum, carry := limb.Add(e, f)
		if got := fp.Pow(a, append(sum, carry)); got != fp.Mul(fp.Pow(a, e), fp.Pow(a, f)) {
			t.Errorf("%X's of %X and %X: %X", a, e, f, got)
		}
		if got := fp.Pow(a, limb.Mul(e, f)); got != fp.Pow(fp.Pow(a, e), f) {
			t.Errorf("%X's of %X times %X: %X", a, e, f, got)
		}
	}
}

// R4, R5: lists that are handed in stay as they were, spare room too, and are not kept: changed afterwards, they change no answer; asked again, a call answers the same.
func TestListsAreNeitherChangedNorKept(t *testing.T) {
	random := rand.New(rand.NewSource(16))
	calls := map[string]func(w []uint64) api.Fp{
		"Wide": fp.Wide,
		"Pow":  func(w []uint64) api.Fp { return fp.Pow(api.Fp{3, 1, 4, 1, 5, top}, w) },
	}
	for name, call := range calls {
		for n := range 20 {
			room := drawn(random, n+8)
			before := slices.Clone(room)
			first := call(room[:n])
			if !slices.Equal(room, before) {
				t.Errorf("%s of %d words changed them", name, n)
			}
			for i := range room {
				room[i] ^= top
			}
			if again := call(slices.Clone(before[:n])); again != first {
				t.Errorf("%s of %d words: %X, and then %X", name, n, first, again)
			}
		}
	}
}

// R4: bytes that are handed in stay as they were, and those that are answered are memory of their own.
func TestBytesAreNeitherChangedNorKept(t *testing.T) {
	a := api.Fp{1, 2, 3, 4, 5, 6}
	room := append(number(a[:]).FillBytes(make([]byte, 48)), 7, 8, 9)
	before := slices.Clone(room)
	first, e := fp.FromBytes(room[:48])
	if e != api.OK || first != a || !bytes.Equal(room, before) {
		t.Fatalf("%X, %v; bytes %X", first, e, room)
	}
	clear(room)
	answered := fp.Bytes(a)
	clear(answered[:])
	if got := fp.Bytes(first); !bytes.Equal(got[:], before[:48]) || first != a {
		t.Errorf("%X, of %X", got, first)
	}
}

// The chapter's section 'Examples', as it stands there.
func TestChapterExamples(t *testing.T) {
	p, one, none := fp.P(), api.Fp{1}, api.Fp{}
	words, _ := limb.Sub(p[:], one[:])
	last := api.Fp(words)
	if a, b, c := fp.Add(last, api.Fp{2}), fp.Sub(none, one), fp.Mul(last, last); a != one || b != last || c != one {
		t.Errorf("%X, %X, %X", a, b, c)
	}
	half := new(big.Int).Rsh(near(1, 1), 1)
	if a, b := fp.Inv(api.Fp{2}), fp.Inv(none); a != six(half) || b != none {
		t.Errorf("%X, %X", a, b)
	}
	if _, e := fp.FromBytes(bytes.Repeat([]byte{255}, 48)); e != api.ErrFpRange {
		t.Errorf("48 bytes 255: %v", e)
	}
	if _, e := fp.FromBytes(nil); e != api.ErrFpLen {
		t.Errorf("no bytes: %v", e)
	}
}
