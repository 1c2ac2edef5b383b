package fp2_test

import (
	"math/big"
	"math/rand"
	"slices"
	"strings"
	"testing"

	"sigil/api"
	"sigil/fp"
	"sigil/fp2"
)

// size is how many words a part has.
const size = 6

// top is a word whose bits are all 1.
const top = 1<<64 - 1

// primeDigits are p, as chapter 4 writes it.
const primeDigits = "1A0111EA 397FE69A 4B1BA7B6 434BACD7 64774B84 F38512BF 6730D2A0 F6B0F624 1EABFFFE B153FFFF B9FEFFFF FFFFAAAB"

// prime is p.
func prime() *big.Int {
	p, _ := new(big.Int).SetString(strings.ReplaceAll(primeDigits, " ", ""), 16)
	return p
}

// number is what words mean: each times 2^64's power of its place, added.
func number(words []uint64) *big.Int {
	sum := new(big.Int)
	for _, word := range slices.Backward(words) {
		sum.Lsh(sum, 64)
		sum.Add(sum, new(big.Int).SetUint64(word))
	}
	return sum
}

// words are n words of a number that they hold.
func words(a *big.Int, n int) []uint64 {
	all := make([]uint64, n)
	for i := range all {
		all[i] = new(big.Int).Rsh(a, uint(64*i)).Uint64()
	}
	return all
}

// six are the six words of a number below 2^384.
func six(a *big.Int) api.Fp { return api.Fp(words(a, size)) }

// near is so many times p, and a bit more or less.
func near(times, more int64) *big.Int {
	a := new(big.Int).Mul(prime(), big.NewInt(times))
	return a.Add(a, big.NewInt(more))
}

// ones are n words whose bits are all 1.
func ones(n int) []uint64 { return slices.Repeat([]uint64{top}, n) }

// drawn are n words, many of which lie at the edges of a word.
func drawn(random *rand.Rand, n int) []uint64 {
	all := make([]uint64, n)
	for i := range all {
		switch random.Intn(8) {
		case 0:
			all[i] = 0
		case 1:
			all[i] = top
		case 2:
			all[i] = 1 << random.Intn(64)
		case 3:
			all[i] = top - uint64(random.Intn(3))
		default:
			all[i] = random.Uint64()
		}
	}
	return all
}

// edges are the parts that the chapter's edges are made of: 0, 1 and p - 1, p and more, multiples of p, six words all 2^64 - 1.
func edges() []api.Fp {
	return []api.Fp{{}, {1}, six(near(1, -1)), six(near(1, 0)), six(near(1, 1)), six(near(2, 0)), six(near(9, -1)), six(near(9, 0)), api.Fp(ones(size))}
}

// parts are the edges, numbers of few bits, about half of p and about its multiples, such as differ from p in one word by one, and drawn ones, below p and not.
func parts() []api.Fp {
	all := append(edges(), api.Fp{2}, api.Fp{top}, api.Fp{0, 1}, api.Fp{5: 1 << 63}, api.Fp{0, 0, top, top}, six(near(1, -2)), six(near(3, 1)), six(near(8, -1)))
	half := new(big.Int).Rsh(prime(), 1)
	all = append(all, six(half), six(half.Add(half, big.NewInt(1))))
	for at := range size {
		lower, higher := six(prime()), six(prime())
		lower[at]--
		higher[at]++
		all = append(all, lower, higher)
	}
	random := rand.New(rand.NewSource(20))
	for range 10 {
		all = append(all, api.Fp(drawn(random, size)), six(new(big.Int).Rand(random, prime())))
	}
	return all
}

// pairs are all numbers with these parts.
func pairs(parts []api.Fp) []api.Fp2 {
	var all []api.Fp2
	for _, a := range parts {
		for _, b := range parts {
			all = append(all, api.Fp2{A: a, B: b})
		}
	}
	return all
}

// samples are all numbers with the parts above.
func samples() []api.Fp2 { return pairs(parts()) }

// some are so many of the samples, drawn, and all numbers of edges.
func some(n int, seed int64) []api.Fp2 {
	all, chosen := samples(), pairs(edges())
	random := rand.New(rand.NewSource(seed))
	for range n {
		chosen = append(chosen, all[random.Intn(len(all))])
	}
	return chosen
}

// wide is a number with u, its parts any of the library's.
type wide struct{ a, b *big.Int }

// widened is a number as the library's.
func widened(a api.Fp2) wide { return wide{number(a.A[:]), number(a.B[:])} }

// times is a product, made of all four of its parts.
func (x wide) times(y wide) wide {
	product := func(a, b *big.Int) *big.Int { return new(big.Int).Mul(a, b) }
	ofA, ofB := product(x.a, y.a), product(x.b, y.b)
	left := wide{ofA.Sub(ofA, ofB), product(x.a, y.b)}
	left.b.Add(left.b, product(x.b, y.a))
	return wide{left.a.Mod(left.a, prime()), left.b.Mod(left.b, prime())}
}

// check holds an answer to a number: its parts are that one's modulo p, and below p.
func check(t *testing.T, call string, got api.Fp2, want wide) {
	t.Helper()
	remains := func(a *big.Int) api.Fp { return six(new(big.Int).Mod(a, prime())) }
	if must := (api.Fp2{A: remains(want.a), B: remains(want.b)}); got != must {
		t.Errorf("%s: %X, want %X", call, got, must)
	}
}

// pair are an answer, and what it must be.
type pair struct{ got, want api.Fp2 }

// checkAll holds answers to what they must be.
func checkAll(t *testing.T, all []pair) {
	t.Helper()
	for i, c := range all {
		if c.got != c.want {
			t.Errorf("%d: %X, want %X", i, c.got, c.want)
		}
	}
}

// plain is a number of two small parts; those below 0 are the opposites'.
func plain(a, b int64) api.Fp2 {
	part := func(x int64) api.Fp { return six(new(big.Int).Mod(big.NewInt(x), prime())) }
	return api.Fp2{A: part(a), B: part(b)}
}

// P7.1, P7.2: the calls of one number, at all pairs of parts.
func TestCallsOfOneNumber(t *testing.T) {
	for _, a := range samples() {
		x := widened(a)
		opposite := func(a *big.Int) *big.Int { return new(big.Int).Neg(a) }
		check(t, "Reduce", fp2.Reduce(a), x)
		check(t, "Neg", fp2.Neg(a), wide{opposite(x.a), opposite(x.b)})
		check(t, "Conj", fp2.Conj(a), wide{x.a, opposite(x.b)})
		check(t, "Xi", fp2.Xi(a), wide{new(big.Int).Sub(x.a, x.b), new(big.Int).Add(x.a, x.b)})
		check(t, "Mul with itself", fp2.Mul(a, a), x.times(x))
	}
}

// checkTwo holds the calls of two numbers to the library's.
func checkTwo(t *testing.T, a, b api.Fp2) {
	t.Helper()
	x, y := widened(a), widened(b)
	check(t, "Add", fp2.Add(a, b), wide{new(big.Int).Add(x.a, y.a), new(big.Int).Add(x.b, y.b)})
	check(t, "Sub", fp2.Sub(a, b), wide{new(big.Int).Sub(x.a, y.a), new(big.Int).Sub(x.b, y.b)})
	check(t, "Mul", fp2.Mul(a, b), x.times(y))
	check(t, "Scale", fp2.Scale(a, b.B), wide{new(big.Int).Mul(x.a, y.b), new(big.Int).Mul(x.b, y.b)})
}

// P7.1, P7.2: all pairs of numbers whose parts are edges, either way round.
func TestCallsOfTwoEdges(t *testing.T) {
	all := pairs(edges())
	for _, a := range all {
		for _, b := range all {
			checkTwo(t, a, b)
		}
	}
}

// P7.1, P7.2: samples, two by two, and drawn numbers, below p and not.
func TestCallsOfTwoNumbers(t *testing.T) {
	all := samples()
	random := rand.New(rand.NewSource(21))
	for range 10000 {
		checkTwo(t, all[random.Intn(len(all))], all[random.Intn(len(all))])
		a := api.Fp2{A: api.Fp(drawn(random, size)), B: api.Fp(drawn(random, size))}
		b := api.Fp2{A: six(new(big.Int).Rand(random, prime())), B: six(new(big.Int).Rand(random, prime()))}
		checkTwo(t, a, b)
		checkTwo(t, b, a)
	}
}

// P7.1: sums, differences and products of 0, 1, u, 1 + u, of parts p - 1, of numbers with no A and with no B.
func TestSmallSumsAndProducts(t *testing.T) {
	none, one, u, both := plain(0, 0), plain(1, 0), plain(0, 1), plain(1, 1)
	checkAll(t, []pair{
		{fp2.Add(one, u), both},
		{fp2.Add(u, plain(-1, -1)), plain(-1, 0)},
		{fp2.Add(plain(-1, -1), both), none},
		{fp2.Sub(none, both), plain(-1, -1)},
		{fp2.Sub(one, u), plain(1, -1)},
		{fp2.Sub(u, one), plain(-1, 1)},
		{fp2.Neg(none), none},
		{fp2.Neg(plain(1, 0)), plain(-1, 0)},
		{fp2.Neg(plain(0, -1)), u},
		{fp2.Mul(none, both), none},
		{fp2.Mul(one, both), both},
		{fp2.Mul(u, u), plain(-1, 0)},
		{fp2.Mul(u, one), u},
		{fp2.Mul(u, both), plain(-1, 1)},
		{fp2.Mul(both, both), plain(0, 2)},
		{fp2.Mul(both, plain(1, -1)), plain(2, 0)},
		{fp2.Mul(plain(-1, -1), plain(-1, -1)), plain(0, 2)},
		{fp2.Mul(plain(3, 5), plain(7, 2)), plain(11, 41)},
		{fp2.Mul(plain(3, 5), plain(3, 5)), plain(-16, 30)},
		{fp2.Mul(plain(0, 5), plain(0, 2)), plain(-10, 0)},
		{fp2.Mul(plain(5, 0), plain(2, 0)), plain(10, 0)},
		{fp2.Mul(plain(5, 0), plain(0, 2)), plain(0, 10)},
		{fp2.Xi(none), none},
		{fp2.Xi(both), plain(0, 2)},
		{fp2.Xi(plain(0, -1)), plain(1, -1)},
		{fp2.Scale(plain(3, -5), api.Fp{4}), plain(12, -20)},
		{fp2.Scale(plain(3, -5), api.Fp{}), none},
		{fp2.Scale(plain(3, -5), fp.P()), none},
		{fp2.Scale(plain(3, -5), six(near(1, -1))), plain(-3, 5)},
		{fp2.Scale(plain(3, -5), six(near(2, 1))), plain(3, -5)},
	})
}

// P7.1: a number times itself is the same, whether both have the same words or one of them other words for the same parts.
func TestSquares(t *testing.T) {
	for _, a := range some(2000, 22) {
		square := fp2.Mul(a, a)
		check(t, "Mul", square, widened(a).times(widened(a)))
		if got := fp2.Mul(a, fp2.Reduce(a)); got != square {
			t.Errorf("%X times itself below p: %X, want %X", a, got, square)
		}
		if got := fp2.Mul(fp2.Reduce(a), fp2.Reduce(a)); got != square {
			t.Errorf("%X, below p, times itself: %X, want %X", a, got, square)
		}
	}
}

// P7.1: an inverse's product with the number is 1, and its parts are below p; of 0, and of parts that p divides, it is 0.
func TestInv(t *testing.T) {
	for _, a := range samples() {
		want := plain(1, 0)
		if fp2.Reduce(a) == (api.Fp2{}) {
			want = api.Fp2{}
		}
		inverse := fp2.Inv(a)
		check(t, "1, or 0", want, widened(inverse).times(widened(a)))
		if fp2.Reduce(inverse) != inverse || (want == api.Fp2{}) != (inverse == api.Fp2{}) {
			t.Errorf("%X: inverse %X", a, inverse)
		}
	}
	multiples := []api.Fp{{}}
	for times := range int64(10) {
		multiples = append(multiples, six(near(times, 0)))
	}
	for _, a := range pairs(multiples) {
		if got := fp2.Inv(a); got != (api.Fp2{}) {
			t.Errorf("%X, which is 0: inverse %X", a, got)
		}
	}
}

// P7.1: inverses of numbers with no A, with no B, and of small ones.
func TestSmallInverses(t *testing.T) {
	half := api.Fp2{A: fp.Inv(api.Fp{2})}
	checkAll(t, []pair{
		{fp2.Inv(plain(1, 0)), plain(1, 0)},
		{fp2.Inv(plain(-1, 0)), plain(-1, 0)},
		{fp2.Inv(plain(0, 1)), plain(0, -1)},
		{fp2.Inv(plain(0, -1)), plain(0, 1)},
		{fp2.Inv(plain(2, 0)), half},
		{fp2.Inv(plain(0, 2)), fp2.Mul(half, plain(0, -1))},
		{fp2.Inv(plain(1, 1)), fp2.Mul(half, plain(1, -1))},
		{fp2.Inv(plain(-1, -1)), fp2.Mul(half, plain(-1, 1))},
		{fp2.Inv(half), plain(2, 0)},
		{fp2.Inv(api.Fp2{A: six(near(1, 1)), B: fp.P()}), plain(1, 0)},
		{fp2.Inv(api.Fp2{A: six(near(2, 0)), B: six(near(3, 1))}), plain(0, -1)},
	})
}

// power is a number's power, bit by bit, of the library's.
func power(a wide, e *big.Int) wide {
	all := wide{big.NewInt(1), new(big.Int)}
	for bit := e.BitLen() - 1; bit >= 0; bit-- {
		all = all.times(all)
		if e.Bit(bit) == 1 {
			all = all.times(a)
		}
	}
	return all
}

// order is p's square less 1.
func order() *big.Int {
	square := new(big.Int).Mul(prime(), prime())
	return square.Sub(square, big.NewInt(1))
}

// exponents are those of no word, of noughts, small ones with noughts at their tops and without, those about p and p's square, and drawn ones of up to fourteen words.
func exponents() [][]uint64 {
	all := [][]uint64{nil, {}, {0}, {0, 0, 0}, make([]uint64, 14), {1}, {1, 0}, {1, 0, 0, 0, 0, 0, 0, 0}, {2}, {3}, {5}, {15}, {16}, {17}, {5, 0, 0}, {0, 1}, {0, 0, 1}, {1 << 60}, {1 << 63}, {top}, ones(6), ones(7), ones(13), append(make([]uint64, 6), 1), append(make([]uint64, 12), 1)}
	for more := int64(-2); more <= 2; more++ {
		all = append(all, words(near(1, more), 6), words(near(1, more), 8))
		about := new(big.Int).Add(order(), big.NewInt(more))
		all = append(all, words(about, 12), words(about, 15))
	}
	random := rand.New(rand.NewSource(23))
	for n := 1; n <= 14; n++ {
		all = append(all, drawn(random, n), append(drawn(random, n), 0, 0))
	}
	return all
}

// P7.2: powers of samples, as they are reckoned bit by bit.
func TestPow(t *testing.T) {
	all := some(60, 24)
	for i, e := range exponents() {
		for j, a := range all {
			if (i+j)%10 == 0 {
				check(t, "Pow", fp2.Pow(a, e), power(widened(a), number(e)))
			}
		}
	}
}

// P7.2: small exponents, all of them, with noughts at the top and without.
func TestSmallPowers(t *testing.T) {
	for _, a := range []api.Fp2{plain(3, 5), plain(0, -1), {A: api.Fp(ones(size)), B: six(near(2, 1))}} {
		want := plain(1, 0)
		for e := range uint64(300) {
			for _, words := range [][]uint64{{e}, {e, 0}, {e, 0, 0, 0, 0, 0, 0, 0, 0}} {
				if got := fp2.Pow(a, words); got != want {
					t.Errorf("%X's of %X: %X, want %X", a, words, got, want)
				}
			}
			check(t, "Mul", fp2.Mul(want, a), widened(want).times(widened(a)))
			want = fp2.Mul(want, a)
		}
	}
	checkAll(t, []pair{
		{fp2.Pow(plain(3, 5), []uint64{2}), plain(-16, 30)},
		{fp2.Pow(plain(1, 1), []uint64{8}), plain(16, 0)},
		{fp2.Pow(plain(0, 1), []uint64{3}), plain(0, -1)},
		{fp2.Pow(plain(0, 1), []uint64{2, 0, 1}), plain(-1, 0)},
	})
}

// P7.2: a power of 0 is 1, of 0 too, whatever words there are for either; another one of 0 is 0, of 1 it is 1.
func TestPowEdges(t *testing.T) {
	zeros := []api.Fp2{{}, {A: fp.P()}, {B: fp.P()}, {A: fp.P(), B: fp.P()}, {A: six(near(2, 0)), B: six(near(9, 0))}}
	for _, e := range exponents() {
		want := api.Fp2{}
		if number(e).Sign() == 0 {
			want = plain(1, 0)
			for _, a := range some(100, 25) {
				if got := fp2.Pow(a, e); got != want {
					t.Errorf("%X's of %X: %X", a, e, got)
				}
			}
		}
		for _, a := range zeros {
			if got := fp2.Pow(a, e); got != want {
				t.Errorf("%X's of %X: %X, want %X", a, e, got, want)
			}
		}
		if got := fp2.Pow(api.Fp2{A: six(near(3, 1)), B: six(near(2, 0))}, e); got != plain(1, 0) {
			t.Errorf("1's of %X: %X", e, got)
		}
	}
}

// P7.2: exponents of hundreds of words: the highest word counts, and noughts above it change nothing.
func TestPowOfLongExponents(t *testing.T) {
	random := rand.New(rand.NewSource(26))
	for _, n := range []int{50, 400} {
		a, e := api.Fp2{A: api.Fp(drawn(random, size)), B: api.Fp(drawn(random, size))}, drawn(random, n)
		left := new(big.Int).Mod(number(e), order())
		got := fp2.Pow(a, e)
		check(t, "Pow", got, power(widened(a), left))
		if long := fp2.Pow(a, append(slices.Clone(e), make([]uint64, 100000)...)); long != got {
			t.Errorf("%d words: noughts at the top change the power", n)
		}
	}
}

// P7.2, P7.3: powers of sums are powers' products, those of products powers' powers.
func TestPowersOfSums(t *testing.T) {
	random := rand.New(rand.NewSource(27))
	for _, a := range some(20, 28) {
		e, f := drawn(random, 1+random.Intn(8)), drawn(random, 1+random.Intn(8))
		sum, product := new(big.Int).Add(number(e), number(f)), new(big.Int).Mul(number(e), number(f))
		if got := fp2.Pow(a, words(sum, 9)); got != fp2.Mul(fp2.Pow(a, e), fp2.Pow(a, f)) {
			t.Errorf("%X's of %X and %X: %X", a, e, f, got)
		}
		if got := fp2.Pow(a, words(product, 16)); got != fp2.Pow(fp2.Pow(a, e), f) {
			t.Errorf("%X's of %X times %X: %X", a, e, f, got)
		}
	}
}

// P7.3: orders and brackets do not matter, products are distributive; what is added is taken away.
func TestField(t *testing.T) {
	all := samples()
	random := rand.New(rand.NewSource(29))
	for range 5000 {
		a, b, c := all[random.Intn(len(all))], all[random.Intn(len(all))], all[random.Intn(len(all))]
		for law, sides := range map[string][2]api.Fp2{
			"sums' order":       {fp2.Add(a, b), fp2.Add(b, a)},
			"sums' brackets":    {fp2.Add(fp2.Add(a, b), c), fp2.Add(a, fp2.Add(b, c))},
			"products' order":   {fp2.Mul(a, b), fp2.Mul(b, a)},
			"their brackets":    {fp2.Mul(fp2.Mul(a, b), c), fp2.Mul(a, fp2.Mul(b, c))},
			"distribution":      {fp2.Mul(fp2.Add(a, b), c), fp2.Add(fp2.Mul(a, c), fp2.Mul(b, c))},
			"differences":       {fp2.Add(fp2.Sub(a, b), b), fp2.Reduce(a)},
			"opposites":         {fp2.Add(a, fp2.Neg(b)), fp2.Sub(a, b)},
			"opposites' own":    {fp2.Neg(fp2.Neg(a)), fp2.Reduce(a)},
			"opposite products": {fp2.Mul(fp2.Neg(a), b), fp2.Neg(fp2.Mul(a, b))},
			"nothing added":     {fp2.Add(a, api.Fp2{}), fp2.Reduce(a)},
			"times one":         {fp2.Mul(a, plain(1, 0)), fp2.Reduce(a)},
			"times 1 + u":       {fp2.Mul(a, plain(1, 1)), fp2.Xi(a)},
			"times no B":        {fp2.Mul(a, api.Fp2{A: b.B}), fp2.Scale(a, b.B)},
			"conjugates":        {fp2.Mul(fp2.Conj(a), fp2.Conj(b)), fp2.Conj(fp2.Mul(a, b))},
			"conjugates' own":   {fp2.Conj(fp2.Conj(a)), fp2.Reduce(a)},
		} {
			if sides[0] != sides[1] {
				t.Errorf("%s: %X, %X, %X: %X and %X", law, a, b, c, sides[0], sides[1])
			}
		}
	}
}

// P7.3: a number's product with its inverse is 1, but for 0; an inverse's inverse is the number; inverses of products are the inverses' products.
func TestInverses(t *testing.T) {
	before := plain(1, 0)
	for _, a := range some(1000, 30) {
		inverse, want := fp2.Inv(a), plain(1, 0)
		if fp2.Reduce(a) == (api.Fp2{}) {
			want = api.Fp2{}
		}
		if got := fp2.Mul(a, inverse); got != want {
			t.Errorf("%X and its inverse %X: %X", a, inverse, got)
		}
		if got := fp2.Inv(inverse); got != fp2.Reduce(a) {
			t.Errorf("%X's inverse's inverse: %X", a, got)
		}
		if got := fp2.Inv(fp2.Mul(a, before)); got != fp2.Mul(inverse, fp2.Inv(before)) {
			t.Errorf("%X and %X: their product's inverse is %X", a, before, got)
		}
		before = a
	}
}

// P7.3: a number's power of p is its conjugate, that of p's square the number, that of p's square less 1 is 1, and that of one less the inverse; of 0 all of these are 0.
func TestPowersOfP(t *testing.T) {
	p, square := fp.P(), new(big.Int).Mul(prime(), prime())
	last, less := words(order(), 12), words(new(big.Int).Sub(square, big.NewInt(2)), 12)
	for _, a := range some(200, 31) {
		want := plain(1, 0)
		if fp2.Reduce(a) == (api.Fp2{}) {
			want = api.Fp2{}
		}
		checkAll(t, []pair{
			{fp2.Pow(a, p[:]), fp2.Conj(a)},
			{fp2.Pow(a, words(square, 12)), fp2.Reduce(a)},
			{fp2.Pow(a, last), want},
			{fp2.Pow(a, less), fp2.Inv(a)},
		})
	}
}

// P7.3: a number times its conjugate has no B: it is the sum of its parts' squares; and so is its power of p + 1.
func TestNumbersTimesTheirConjugates(t *testing.T) {
	next := words(near(1, 1), 6)
	for i, a := range samples() {
		want := api.Fp2{A: fp.Add(fp.Mul(a.A, a.A), fp.Mul(a.B, a.B))}
		if got := fp2.Mul(a, fp2.Conj(a)); got != want || got.B != (api.Fp{}) {
			t.Errorf("%X: %X, want %X", a, got, want)
		}
		if i%20 == 0 && fp2.Pow(a, next) != want {
			t.Errorf("%X's power of p + 1: %X, want %X", a, fp2.Pow(a, next), want)
		}
	}
}

// R4, R5: an exponent stays as it was, spare room too, and is not kept: changed afterwards, it changes no answer; asked again, Pow answers the same.
func TestExponentsAreNeitherChangedNorKept(t *testing.T) {
	random := rand.New(rand.NewSource(32))
	a := api.Fp2{A: api.Fp{3, 1, 4, 1, 5, top}, B: api.Fp{9, 2, 6}}
	for n := range 16 {
		room := drawn(random, n+8)
		before := slices.Clone(room)
		first := fp2.Pow(a, room[:n])
		if !slices.Equal(room, before) {
			t.Errorf("%d words are changed", n)
		}
		for i := range room {
			room[i] ^= top
		}
		if again := fp2.Pow(a, slices.Clone(before[:n])); again != first {
			t.Errorf("%d words: %X, and then %X", n, first, again)
		}
	}
}

// R5: asked again, in whatever order, and with other words for the same parts, a call answers the same.
func TestAnswersHangOnTheNumberAlone(t *testing.T) {
	b, k, e := api.Fp2{A: api.Fp{5, top, 7}, B: api.Fp(ones(size))}, api.Fp{top, 3}, []uint64{1 << 40, 11}
	ask := func(a api.Fp2) [12]api.Fp2 {
		return [12]api.Fp2{fp2.Reduce(a), fp2.Add(a, b), fp2.Add(b, a), fp2.Sub(a, b), fp2.Sub(b, a), fp2.Neg(a), fp2.Mul(a, b), fp2.Mul(b, a), fp2.Inv(a), fp2.Conj(a), fp2.Xi(a), fp2.Mul(fp2.Scale(a, k), fp2.Pow(a, e))}
	}
	all := some(200, 33)
	first := make([][12]api.Fp2, len(all))
	for i, a := range all {
		first[i] = ask(a)
	}
	p := prime()
	more := func(a api.Fp, times int64) api.Fp {
		left := number(a[:])
		left.Mod(left, p)
		return six(left.Add(left, near(times, 0)))
	}
	for i, a := range slices.Backward(all) {
		if again := ask(a); again != first[i] {
			t.Errorf("%X: %X, and asked again %X", a, first[i], again)
		}
		if other := ask(api.Fp2{A: more(a.A, 8), B: more(a.B, 1)}); other != first[i] {
			t.Errorf("%X: %X, and with multiples of p added %X", a, first[i], other)
		}
	}
}

// The chapter's section 'Examples', as it stands there.
func TestChapterExamples(t *testing.T) {
	one, u := api.Fp2{A: api.Fp{1}}, api.Fp2{B: api.Fp{1}}
	sum, difference := fp2.Add(one, u), fp2.Sub(one, u)
	checkAll(t, []pair{
		{fp2.Mul(u, u), fp2.Neg(one)},
		{fp2.Xi(one), sum},
		{fp2.Inv(u), fp2.Neg(u)},
		{fp2.Mul(sum, difference), api.Fp2{A: api.Fp{2}}},
		{fp2.Conj(sum), difference},
	})
}
