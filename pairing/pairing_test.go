package pairing_test

import (
	"math/big"
	"math/rand"
	"runtime"
	"slices"
	"strings"
	"sync"
	"testing"

	"sigil/api"
	"sigil/fp"
	"sigil/fp12"
	"sigil/fp2"
	"sigil/fp2root"
	"sigil/fproot"
	"sigil/frob"
	"sigil/g1"
	"sigil/g2"
	"sigil/miller"
	"sigil/pairing"
)

const (
	// size is how many words a part has, count how many parts a number.
	size  = 6
	count = 12
)

// top is a word whose bits are all 1.
const top = 1<<64 - 1

const (
	// primeDigits are p, as chapter 4 writes it, orderDigits r, as chapter 6 does, and rootDigits 0 - x, as chapter 14 does.
	primeDigits = "1A0111EA 397FE69A 4B1BA7B6 434BACD7 64774B84 F38512BF 6730D2A0 F6B0F624 1EABFFFE B153FFFF B9FEFFFF FFFFAAAB"
	orderDigits = "73EDA753 299D7D48 3339D808 09A1D805 53BDA402 FFFE5BFE FFFFFFFF 00000001"
	rootDigits  = "D2010000 00010000"
)

// written is the number of hexadecimal digits.
func written(digits string) *big.Int {
	a, _ := new(big.Int).SetString(strings.ReplaceAll(digits, " ", ""), 16)
	return a
}

// prime is p.
var prime = sync.OnceValue(func() *big.Int { return written(primeDigits) })

// order is r.
var order = sync.OnceValue(func() *big.Int { return written(orderDigits) })

// root is x, below 0.
func root() *big.Int { return new(big.Int).Neg(written(rootDigits)) }

// polynomialAt is what a polynomial, its factors the highest first, is at a number.
func polynomialAt(x *big.Int, factors ...int64) *big.Int {
	sum := new(big.Int)
	for _, factor := range factors {
		sum.Add(sum.Mul(sum, x), big.NewInt(factor))
	}
	return sum
}

// through is a quotient of which nothing is left.
func through(a, b *big.Int) *big.Int {
	quotient, left := new(big.Int).QuoRem(a, b, new(big.Int))
	if left.Sign() != 0 {
		panic("something is left of a quotient")
	}
	return quotient
}

// whole is (p^12 - 1) / r, and last (p^4 - p^2 + 1) / r.
var whole = sync.OnceValue(func() *big.Int {
	return through(polynomialAt(prime(), 1, 0, 0, 0, 0, 0, 0, 0, 0, 0, 0, 0, -1), order())
})

var last = sync.OnceValue(func() *big.Int { return through(polynomialAt(prime(), 1, 0, -1, 0, 1), order()) })

// number is what words mean: each times 2^64's power of its place, added.
func number(words []uint64) *big.Int {
	sum := new(big.Int)
	for _, word := range slices.Backward(words) {
		sum.Lsh(sum, 64)
		sum.Add(sum, new(big.Int).SetUint64(word))
	}
	return sum
}

// words are a number's, as many as it has.
func words(a *big.Int) []uint64 {
	var all []uint64
	for a := new(big.Int).Set(a); a.Sign() > 0; a.Rsh(a, 64) {
		all = append(all, new(big.Int).And(a, new(big.Int).SetUint64(top)).Uint64())
	}
	return all
}

// six are the six words of a number below 2^384.
func six(a *big.Int) api.Fp {
	var all api.Fp
	copy(all[:], words(a))
	return all
}

// near is so many times p, and a bit more or less.
func near(times, more int64) api.Fp {
	a := new(big.Int).Mul(prime(), big.NewInt(times))
	return six(a.Add(a, big.NewInt(more)))
}

// edges are the parts that the chapter's edges are made of: 0, 1, 2 and p - 1, p and more, multiples of p, six words all 2^64 - 1.
func edges() []api.Fp {
	return []api.Fp{{}, {1}, {2}, near(1, -2), near(1, -1), near(1, 0), near(1, 1), near(1, 2), near(2, 0), near(9, -1), near(9, 0), near(9, 2), {top, top, top, top, top, top}}
}

// drawn are six words, many of which lie at the edges of a word.
func drawn(random *rand.Rand) api.Fp {
	var all api.Fp
	for i := range all {
		switch random.Intn(8) {
		case 0:
			all[i] = 0
		case 1:
			all[i] = top
		default:
			all[i] = random.Uint64()
		}
	}
	return all
}

// more is a number with so many times p on it, as often as six words hold it.
func more(a api.Fp, times int64) api.Fp {
	sum := new(big.Int).Mul(prime(), big.NewInt(times))
	if sum.Add(sum, number(a[:])); sum.BitLen() > 64*size {
		return more(a, times-1)
	}
	return six(sum)
}

// slots are a number's twelve parts: of w's powers from 0 to 5 those without u and with it.
type slots [count]api.Fp

// made is the number of twelve parts.
func made(x slots) api.Fp12 {
	two := func(power int) api.Fp2 { return api.Fp2{A: x[2*power], B: x[2*power+1]} }
	return api.Fp12{A: api.Fp6{A: two(0), B: two(2), C: two(4)}, B: api.Fp6{A: two(1), B: two(3), C: two(5)}}
}

// taken are a number's twelve parts.
func taken(a api.Fp12) slots {
	var x slots
	for power, two := range []api.Fp2{a.A.A, a.B.A, a.A.B, a.B.B, a.A.C, a.B.C} {
		x[2*power], x[2*power+1] = two.A, two.B
	}
	return x
}

// otherWords is a number with other words for its parts.
func otherWords(a api.Fp12, times int) api.Fp12 {
	x := taken(a)
	for i := range x {
		x[i] = more(x[i], int64((times+5*i)%10))
	}
	return made(x)
}

// one is 1.
func one() api.Fp12 { return made(slots{{1}}) }

// drawnNumber is a number of any words.
func drawnNumber(random *rand.Rand) api.Fp12 {
	var x slots
	for i := range x {
		x[i] = drawn(random)
	}
	return made(x)
}

// drawnNumbers are so many.
func drawnNumbers(n int, seed int64) []api.Fp12 {
	random := rand.New(rand.NewSource(seed))
	var all []api.Fp12
	for range n {
		all = append(all, drawnNumber(random))
	}
	return all
}

// polynomial is a number of the library's: what each of w's powers up to the eleventh has. u is w^6 - 1, and so w^12 is 2·w^6 - 2.
type polynomial [count]*big.Int

// polynomialOf is a number as the library's.
func polynomialOf(a api.Fp12) polynomial {
	var x polynomial
	for i, part := range taken(a) {
		if i%2 == 0 {
			x[i/2] = number(part[:])
			continue
		}
		x[i/2+count/2] = number(part[:])
		x[i/2].Sub(x[i/2], x[i/2+count/2])
	}
	return x
}

// number is the number that is meant.
func (x polynomial) number() api.Fp12 {
	var all slots
	for i := range count / 2 {
		sum := new(big.Int).Add(x[i], x[i+count/2])
		all[2*i] = six(sum.Mod(sum, prime()))
		all[2*i+1] = six(new(big.Int).Mod(x[i+count/2], prime()))
	}
	return made(all)
}

// times is a product.
func (x polynomial) times(y polynomial) polynomial {
	var all [2*count - 1]big.Int
	term := new(big.Int)
	for i, a := range x {
		for j, b := range y {
			all[i+j].Add(&all[i+j], term.Mul(a, b))
		}
	}
	for i := len(all) - 1; i >= count; i-- {
		term.Lsh(&all[i], 1)
		all[i-count/2].Add(&all[i-count/2], term)
		all[i-count].Sub(&all[i-count], term)
	}
	var left polynomial
	for i := range left {
		left[i] = all[i].Mod(&all[i], prime())
	}
	return left
}

// power is a number's power, bit by bit.
func (x polynomial) power(e *big.Int) polynomial {
	all := polynomialOf(one())
	for bit := e.BitLen() - 1; bit >= 0; bit-- {
		all = all.times(all)
		if e.Bit(bit) == 1 {
			all = all.times(x)
		}
	}
	return all
}

// apart is P16.1's number, reckoned by the library's numbers alone.
func apart(f api.Fp12) api.Fp12 { return polynomialOf(f).power(whole()).number() }

// byPower is P16.1's number by one power of fp12's.
func byPower(f api.Fp12) api.Fp12 { return fp12.Pow(f, words(whole())) }

// bySteps is P16.1's number by its three steps, powers being fp12's.
func bySteps(f api.Fp12) api.Fp12 {
	g := fp12.Mul(fp12.Conj(f), fp12.Inv(f))
	h := fp12.Mul(fp12.Pow(g, words(polynomialAt(prime(), 1, 0, 0))), g)
	return fp12.Pow(h, words(last()))
}

// isLow tells whether all parts of a number are below p.
func isLow(a api.Fp12) bool {
	parts := taken(a)
	return !slices.ContainsFunc(parts[:], func(part api.Fp) bool { return number(part[:]).Cmp(prime()) >= 0 })
}

// eachOf goes through numbers, several at once, as what they are held to takes long.
func eachOf(all []api.Fp12, hold func(f api.Fp12)) {
	var group sync.WaitGroup
	for some := range slices.Chunk(all, 1+len(all)/runtime.GOMAXPROCS(0)) {
		group.Go(func() {
			for _, f := range some {
				hold(f)
			}
		})
	}
	group.Wait()
}

// checkFinal holds Final's answer to what it must be.
func checkFinal(t *testing.T, f, want api.Fp12) {
	t.Helper()
	if got := pairing.Final(f); got != want || !isLow(got) {
		t.Errorf("Final of %X: %X, want %X", f, got, want)
	}
}

// P16.1: of any words the power of (p^12 - 1) / r, reckoned apart by the library's numbers: of numbers drawn, of Miller's, and of one whose words are all 2^64 - 1.
func TestFinalApart(t *testing.T) {
	var all slots
	for i := range all {
		all[i] = api.Fp{top, top, top, top, top, top}
	}
	f, _ := miller.Loop(g1.Base(), g2.Base())
	eachOf(append(drawnNumbers(8, 1600), made(all), f, otherWords(f, 3)), func(f api.Fp12) {
		checkFinal(t, f, apart(f))
	})
}

// P16.1: of any words, by one power of fp12's, and by the promise's three steps gone through apart.
func TestFinalByPower(t *testing.T) {
	eachOf(drawnNumbers(40, 1601), func(f api.Fp12) {
		checkFinal(t, f, byPower(f))
		checkFinal(t, f, bySteps(f))
	})
}

// P16.1: an edge in each part, all others being drawn, and in all parts but one.
func TestFinalOfEdges(t *testing.T) {
	t.Parallel()
	var all []api.Fp12
	random := rand.New(rand.NewSource(1602))
	for _, edge := range edges() {
		for slot := range count {
			one, others := taken(drawnNumber(random)), slots(slices.Repeat([]api.Fp{edge}, count))
			one[slot], others[slot] = edge, drawn(random)
			all = append(all, made(one), made(others))
		}
	}
	eachOf(all, func(f api.Fp12) { checkFinal(t, f, bySteps(f)) })
}

// P16.1: numbers that have but some of the parts of w's powers, noughts being 0, p or another multiple of it.
func TestFinalOfFewParts(t *testing.T) {
	t.Parallel()
	var all []api.Fp12
	random := rand.New(rand.NewSource(1603))
	for choice := range 1<<(count/2) - 1 {
		for _, nought := range []api.Fp{{}, near(1, 0), near(9, 0)} {
			x := slots(slices.Repeat([]api.Fp{nought}, count))
			for i := range x {
				if choice>>(i/2)%2 == 1 {
					x[i] = drawn(random)
				}
			}
			all = append(all, made(x))
		}
	}
	eachOf(all, func(f api.Fp12) { checkFinal(t, f, bySteps(f)) })
}

// P16.1: 0 of 0, whatever multiples of p its parts are.
func TestFinalOfNothing(t *testing.T) {
	multiples := []api.Fp{{}, near(1, 0), near(2, 0), near(9, 0)}
	random := rand.New(rand.NewSource(1604))
	for _, nought := range multiples {
		checkFinal(t, made(slots(slices.Repeat([]api.Fp{nought}, count))), api.Fp12{})
		for slot := range count {
			var x slots
			x[slot] = nought
			checkFinal(t, made(x), api.Fp12{})
		}
	}
	for range 100 {
		var x slots
		for i := range x {
			x[i] = multiples[random.Intn(len(multiples))]
		}
		checkFinal(t, made(x), api.Fp12{})
	}
}

// P16.1: 1 of 1, whatever words it has, of -1, and of all numbers but 0 that have one part only, u, v and w among them: their powers of 12 have no u, v and w, and so the power is one of 1 whose power of 12 is 1.
func TestFinalOfOnePart(t *testing.T) {
	for times := range 10 {
		checkFinal(t, otherWords(one(), times), one())
	}
	checkFinal(t, made(slots{near(1, -1)}), one())
	random := rand.New(rand.NewSource(1605))
	for slot := range count {
		for _, part := range append(edges(), drawn(random), drawn(random)) {
			if number(part[:]).Mod(number(part[:]), prime()).Sign() == 0 {
				continue
			}
			var x slots
			x[slot] = part
			checkFinal(t, made(x), one())
			checkFinal(t, otherWords(made(x), slot), one())
		}
	}
}

// inField is the sum of a number's powers of p's powers that are multiples of n: the power of p's power of n does not change it, and so it is of the field of p^n numbers.
func inField(f api.Fp12, n int) api.Fp12 {
	sum := f
	for step := n; step < count; step += n {
		sum = fp12.Add(sum, frob.Fp12(f, step))
	}
	return sum
}

// P16.1: numbers of the smaller fields, of p, p^2, p^3, p^4 and p^6 numbers, have the power 1.
func TestFinalOfSmallerFields(t *testing.T) {
	for _, n := range []int{1, 2, 3, 4, 6} {
		for i, f := range drawnNumbers(12, 1606) {
			small := inField(f, n)
			if frob.Fp12(small, n) != small || small == (api.Fp12{}) || n > 1 && frob.Fp12(small, n-1) == small {
				t.Fatalf("%X is not what is to be tried", small)
			}
			checkFinal(t, small, one())
			checkFinal(t, otherWords(small, i), one())
			// Times such a one no other's is changed.
			checkFinal(t, fp12.Mul(small, f), pairing.Final(f))
		}
	}
}

// P16.1: Final hangs on the numbers modulo p alone.
func TestFinalOfOtherWords(t *testing.T) {
	t.Parallel()
	for i, f := range drawnNumbers(60, 1607) {
		low := fp12.Reduce(f)
		want := pairing.Final(low)
		checkFinal(t, f, want)
		checkFinal(t, otherWords(low, i), want)
		x := taken(low)
		x[i%count] = more(x[i%count], 1)
		checkFinal(t, made(x), want)
	}
}

// P16.1: a product's is the product, an inverse's the inverse, which is the conjugate; that of a power of p the power of p; and what is answered has the power 1 of r, but for 0.
func TestFinalOfProducts(t *testing.T) {
	t.Parallel()
	before, product, want := one(), one(), one()
	for i, f := range drawnNumbers(60, 1608) {
		got := pairing.Final(f)
		checkFinal(t, fp12.Mul(f, before), fp12.Mul(got, pairing.Final(before)))
		checkFinal(t, fp12.Mul(f, f), fp12.Mul(got, got))
		checkFinal(t, fp12.Inv(f), fp12.Inv(got))
		checkFinal(t, fp12.Conj(f), fp12.Conj(got))
		checkFinal(t, frob.Fp12(f, i), frob.Fp12(got, i))
		checkFinal(t, fp12.Mul(f, api.Fp12{}), api.Fp12{})
		if fp12.Conj(got) != fp12.Inv(got) || fp12.Pow(got, words(order())) != one() || got == one() {
			t.Errorf("Final of %X: %X", f, got)
		}
		before, product, want = f, fp12.Mul(product, f), fp12.Mul(want, got)
	}
	checkFinal(t, product, want)
}

// infinities1 are the base curve's point at infinity, with any numbers.
func infinities1() []api.G1 {
	base := g1.Base()
	all := []api.G1{{Inf: true}, {X: base.X, Y: base.Y, Inf: true}, {X: base.X, Inf: true}, {Y: base.Y, Inf: true}}
	for i, edge := range edges() {
		all = append(all, api.G1{X: edge, Y: edges()[i/2], Inf: true})
	}
	return all
}

// infinities2 are the twisted curve's point at infinity, with any numbers.
func infinities2() []api.G2 {
	base := g2.Base()
	all := []api.G2{{Inf: true}, {X: base.X, Y: base.Y, Inf: true}, {X: base.X, Inf: true}, {Y: base.Y, Inf: true}}
	for i, edge := range edges() {
		all = append(all, api.G2{X: api.Fp2{A: edge, B: edges()[i/2]}, Y: api.Fp2{A: edges()[i/3], B: edge}, Inf: true})
	}
	return all
}

// times1 is so many times a point of the base curve.
func times1(k *big.Int, p api.G1) api.G1 {
	product, e := g1.Mul(words(k), p)
	if e != api.OK {
		panic(e)
	}
	return product
}

// times2 is so many times a point of the twisted curve.
func times2(k *big.Int, p api.G2) api.G2 {
	product, e := g2.Mul(words(k), p)
	if e != api.OK {
		panic(e)
	}
	return product
}

// other1 is a point with other words for its numbers.
func other1(p api.G1, times int) api.G1 {
	return api.G1{X: more(p.X, int64(times%10)), Y: more(p.Y, int64((times+4)%10)), Inf: p.Inf}
}

// other2 is a point with other words for its numbers.
func other2(p api.G2, times int) api.G2 {
	part := func(a api.Fp2, more1, more2 int) api.Fp2 {
		return api.Fp2{A: more(a.A, int64((times+more1)%10)), B: more(a.B, int64((times+more2)%10))}
	}
	return api.G2{X: part(p.X, 0, 3), Y: part(p.Y, 6, 9), Inf: p.Inf}
}

// multiples are how often the bases are taken: 1, 2, 3, -x, r - 1, and some below r, drawn.
func multiples() []*big.Int {
	all := []*big.Int{big.NewInt(1), big.NewInt(2), big.NewInt(3), written(rootDigits), new(big.Int).Sub(order(), big.NewInt(1))}
	random := rand.New(rand.NewSource(1609))
	for range 3 {
		all = append(all, new(big.Int).Rand(random, order()))
	}
	return all
}

// in1 are points of the base curve, of order r, but not infinity: the base's multiples, and opposites, with words below p and not.
var in1 = sync.OnceValue(func() []api.G1 {
	var all []api.G1
	for i, k := range multiples() {
		p := times1(k, g1.Base())
		all = append(all, p, g1.Neg(p), other1(p, i+1))
	}
	return all
})

// in2 are points of the twisted curve, of order r, but not infinity: the base's multiples, and opposites, with words below p and not.
var in2 = sync.OnceValue(func() []api.G2 {
	var all []api.G2
	for i, k := range multiples() {
		q := times2(k, g2.Base())
		all = append(all, q, g2.Neg(q), other2(q, i+1))
	}
	return all
})

// lifted1 is the first point of the base curve with an X at least this.
func lifted1(from uint64) api.G1 {
	for x := (api.Fp{from}); ; x = fp.Add(x, api.Fp{1}) {
		if y, is := fproot.Sqrt(fp.Add(fp.Mul(fp.Mul(x, x), x), api.Fp{4})); is {
			return api.G1{X: x, Y: y}
		}
	}
}

// lifted2 is the first point of the twisted curve with an X that has this A, and a B at least this.
func lifted2(from uint64) api.G2 {
	for x := (api.Fp2{A: api.Fp{from}, B: api.Fp{from}}); ; x = fp2.Add(x, api.Fp2{B: api.Fp{1}}) {
		if y, is := fp2root.Sqrt(fp2.Add(fp2.Mul(fp2.Mul(x, x), x), api.Fp2{A: api.Fp{4}, B: api.Fp{4}})); is {
			return api.G2{X: x, Y: y}
		}
	}
}

// ofOrders are points whose orders are these small primes: lifted makes points of a curve that has so many, times multiplies them.
func ofOrders[P comparable](curve *big.Int, infinity P, lifted func(from uint64) P, times func(k *big.Int, p P) P, orders ...int64) []P {
	var all []P
	for _, n := range orders {
		small, rest := big.NewInt(n), curve
		for new(big.Int).Mod(rest, small).Sign() == 0 {
			rest = through(rest, small)
		}
		p := infinity
		for from := uint64(1); p == infinity; from++ {
			p = times(rest, lifted(from))
		}
		for next := times(small, p); next != infinity; next = times(small, p) {
			p = next
		}
		all = append(all, p)
	}
	return all
}

// small1 are points of the base curve of all its small orders. It has r times (x - 1)·(x - 1) / 3.
var small1 = sync.OnceValue(func() []api.G1 {
	curve := through(new(big.Int).Mul(polynomialAt(root(), 1, -2, 1), order()), big.NewInt(3))
	return ofOrders(curve, api.G1{Inf: true}, lifted1, times1, 3, 11, 10177, 859267, 52437899)
})

// small2 are points of the twisted curve of all its small orders. It has r times the ninth part of a polynomial of x.
var small2 = sync.OnceValue(func() []api.G2 {
	curve := through(new(big.Int).Mul(polynomialAt(root(), 1, -4, 5, 0, -4, 6, -4, -4, 13), order()), big.NewInt(9))
	return ofOrders(curve, api.G2{Inf: true}, lifted2, times2, 13, 23, 2713, 11953, 262069)
})

// out1 are points that are not of order r: off the base curve, X and Y 0 among them, and bases of other curves, where sums go alike; of small orders, those and the base added, and lifted ones, as they are and r times.
var out1 = sync.OnceValue(func() []api.G1 {
	base := g1.Base()
	all := []api.G1{{}, {X: base.X}, {Y: base.Y}, {X: base.Y, Y: base.X}, {X: base.X, Y: fp.Add(base.Y, api.Fp{1})}, {X: near(1, 0), Y: near(9, 0)}, {X: fp.Mul(base.X, api.Fp{4}), Y: fp.Mul(base.Y, api.Fp{8})}}
	for i, edge := range edges() {
		all = append(all, api.G1{X: edge, Y: base.Y}, api.G1{X: base.X, Y: edge}, api.G1{X: edge, Y: edges()[len(edges())-1-i]})
	}
	for i, p := range small1() {
		all = append(all, p, g1.Neg(p), g1.Add(p, base), other1(p, i), g1.Add(p, small1()[(i+1)%len(small1())]))
	}
	for i := range uint64(5) {
		p := lifted1(100 * i)
		all = append(all, p, other1(p, 7), times1(order(), p))
	}
	return all
})

// out2 are points that are not of order r: off the twisted curve, X and Y 0 among them, bases of other curves, where sums go alike, and the base curve's; of small orders, those and the base added, and lifted ones, as they are and r times.
var out2 = sync.OnceValue(func() []api.G2 {
	base, low := g2.Base(), g1.Base()
	all := []api.G2{{}, {X: base.X}, {Y: base.Y}, {X: base.Y, Y: base.X}, {X: fp2.Conj(base.X), Y: fp2.Conj(base.Y)}, {X: base.X, Y: fp2.Conj(base.Y)}, {X: api.Fp2{A: near(1, 0)}, Y: api.Fp2{B: near(9, 0)}}, {X: api.Fp2{A: low.X}, Y: api.Fp2{A: low.Y}}, {X: fp2.Scale(base.X, api.Fp{4}), Y: fp2.Scale(base.Y, api.Fp{8})}}
	for i, edge := range edges() {
		all = append(all, api.G2{X: api.Fp2{A: edge, B: base.X.B}, Y: base.Y}, api.G2{X: base.X, Y: api.Fp2{A: base.Y.A, B: edge}}, api.G2{X: api.Fp2{A: edge}, Y: api.Fp2{B: edges()[len(edges())-1-i]}})
	}
	for i, q := range small2() {
		all = append(all, q, g2.Neg(q), g2.Add(q, base), other2(q, i), g2.Add(q, small2()[(i+1)%len(small2())]))
	}
	for i := range uint64(5) {
		q := lifted2(100 * i)
		all = append(all, q, other2(q, 7), times2(order(), q))
	}
	return all
})

// The points above are what they are taken for: r times they are infinity, or not, or off the curve.
func TestPointsAreWhatTheyAreTakenFor(t *testing.T) {
	in := func(p api.G1, q api.G2) (bool, bool) {
		ofP, e := g1.Mul(words(order()), p)
		ofQ, f := g2.Mul(words(order()), q)
		return e == api.OK && ofP.Inf, f == api.OK && ofQ.Inf
	}
	for _, p := range slices.Concat(infinities1(), in1()) {
		if is, _ := in(p, api.G2{}); !is {
			t.Errorf("%v", p)
		}
	}
	for _, q := range slices.Concat(infinities2(), in2()) {
		if _, is := in(api.G1{}, q); !is {
			t.Errorf("%v", q)
		}
	}
	for _, p := range out1() {
		if is, _ := in(p, api.G2{}); is {
			t.Errorf("%v", p)
		}
	}
	for _, q := range out2() {
		if _, is := in(api.G1{}, q); is {
			t.Errorf("%v", q)
		}
	}
}

// paired is the pairing of two points that are of order r.
func paired(t *testing.T, p api.G1, q api.G2) api.Fp12 {
	t.Helper()
	f, e := pairing.Pair(p, q)
	if e != api.OK || !isLow(f) {
		t.Errorf("Pair of %v, %v: %v, %v", p, q, f, e)
	}
	return f
}

// multiplied is the product of pairings of points that are of order r.
func multiplied(t *testing.T, ps []api.G1, qs []api.G2) api.Fp12 {
	t.Helper()
	f, e := pairing.Product(ps, qs)
	if e != api.OK || !isLow(f) {
		t.Errorf("Product of %v, %v: %v, %v", ps, qs, f, e)
	}
	return f
}

// checkPair holds a pairing, by Pair and by Product, to what it must be.
func checkPair(t *testing.T, p api.G1, q api.G2, want api.Fp12) {
	t.Helper()
	if got := paired(t, p, q); got != want {
		t.Errorf("Pair of %v, %v: %X, want %X", p, q, got, want)
	}
	if got := multiplied(t, []api.G1{p}, []api.G2{q}); got != want {
		t.Errorf("Product of %v, %v: %X, want %X", p, q, got, want)
	}
}

// pairDigits are the parts of the pairing of both bases: of w's powers from 0 to 5 those without u and with it.
var pairDigits = []string{
	"11619B45 F61EDFE3 B47A15FA C1944252 6FF489DC DA25E591 21D99314 38907DFD 448299A8 7DDE3A64 9BDBA96E 84D54558",
	"153CE14A 76A53E20 5BA8F275 EF1137C5 6A566F63 8B52D34B A3BF3BF2 2F277D70 F7631621 8C0DFD58 3A394B84 48D2BE7F",
	"01ECFCF3 1C86257A B00B4709 C33F1C9C 4E007659 DD5FFC4A 73519216 7CE19705 8CFB4C94 225E7F1B 6C26AD9B A68F63BC",
	"08890726 743A1F94 A8193A16 6800B778 7744A8AD 8E2F9365 DB76863E 894B7A11 D83F90D8 73567E9D 645CCF72 5B32D26F",
	"095668FB 4A02FE93 0ED44767 834C915B 283B1C6C A98C047B D4C272E9 AC3F3BA6 FF0B05A9 3E59C71F BA77BCE9 95F04692",
	"16DEEDAA 683124FE 72600851 84D88F7D 036B86F5 3BB5B7F1 FC5E2488 14782065 413E7D95 8D179601 09EA006B 2AFDEB5F",
	"0E61C752 414CA5DF D258E960 6BAC08DA EC29B3E2 C5706266 9556954F B227D3F1 260EEDF2 5446A086 B0844BCD 43646C10",
	"0FE63F18 5F56DD29 150FC498 BBEEA789 69E7E783 043620DB 33F75A05 A0A2CE5C 442BEAFF 9DA195FF 15164C00 AB66BDDE",
	"09C92CF0 2F3CD3D2 F9D34BC4 4EEE0DD5 0314ED44 CA5D30CE 6A9EC053 9BE7A86B 121EDC61 839CCC90 8C4BDDE2 56CD6048",
	"111061F3 98EFC2A9 7FF825B0 4D21089E 24FD8B93 A47E41E6 0EAE7E9B 2A38D54F A4DEDCED 0811C34C E528781A B9E929C7",
	"10900338 A92ED0B4 7AF21163 6F7CFDEC 717B7EE4 3900EEE9 B5FC24F0 000C5874 D4801372 DB478987 691C566A 8C474978",
	"1454814F 3085F0E6 60224767 1BC408BB CE200720 1536818C 901DBD4D 2095DD86 C1EC8B88 8E59611F 60A301AF 7776BE3D",
}

// P16.2, P16.3: the pairing of the bases, part by part; its power of r is 1, and it is neither 1 nor 0.
func TestPairOfBases(t *testing.T) {
	var want slots
	for i, digits := range pairDigits {
		want[i] = six(written(digits))
	}
	got := paired(t, g1.Base(), g2.Base())
	if got != made(want) || got == one() || got == (api.Fp12{}) || fp12.Pow(got, words(order())) != one() {
		t.Errorf("%X, want %X", got, made(want))
	}
}

// W1, P16.2: the pairing of points of order r is the power (p^12 - 1) / r of Miller's number, reckoned apart by the library's numbers, by fp12, and by Final; with words below p and not.
func TestPair(t *testing.T) {
	t.Parallel()
	for i, p := range in1() {
		q := in2()[(5*i+3)%len(in2())]
		f, e := miller.Loop(p, q)
		want := byPower(f)
		if e != api.OK || want != pairing.Final(f) || i%8 == 0 && want != apart(f) {
			t.Errorf("%v, %v: %v, %X", p, q, e, want)
		}
		checkPair(t, p, q, want)
		checkPair(t, other1(p, i), q, want)
		checkPair(t, p, other2(q, i), want)
		checkPair(t, other1(p, 9), other2(q, 9), want)
		if want == one() || fp12.Pow(want, words(order())) != one() {
			t.Errorf("%v, %v: %X", p, q, want)
		}
	}
}

// P16.2, P16.3: 1 where one point is infinity, or both are, whatever numbers they have beside.
func TestPairOfInfinity(t *testing.T) {
	t.Parallel()
	for i, p := range infinities1() {
		checkPair(t, p, in2()[i%len(in2())], one())
		for _, q := range infinities2() {
			checkPair(t, p, q, one())
		}
	}
	for i, q := range infinities2() {
		checkPair(t, in1()[i%len(in1())], q, one())
	}
}

// refusedProduct holds Product's answer to an error, beside which there is no number.
func refusedProduct(t *testing.T, ps []api.G1, qs []api.G2, want api.Errno) {
	t.Helper()
	if got, e := pairing.Product(ps, qs); e != want || got != (api.Fp12{}) {
		t.Errorf("Product of %v, %v: %v, %v", ps, qs, got, e)
	}
}

// refused holds Pair, and Product of the one pair, to ErrSub, beside which there is no number.
func refused(t *testing.T, p api.G1, q api.G2) {
	t.Helper()
	if got, e := pairing.Pair(p, q); e != api.ErrSub || int(e) != 140 || got != (api.Fp12{}) {
		t.Errorf("Pair of %v, %v: %v, %v", p, q, got, e)
	}
	refusedProduct(t, []api.G1{p}, []api.G2{q}, api.ErrSub)
}

// P16.2: ErrSub where p is not of order r, or q is not, or neither is, off the curve and on it, though the other one be infinity.
func TestPairOfOtherPoints(t *testing.T) {
	for i, p := range out1() {
		refused(t, p, in2()[i%len(in2())])
		refused(t, p, infinities2()[i%len(infinities2())])
		refused(t, p, out2()[i%len(out2())])
	}
	for i, q := range out2() {
		refused(t, in1()[i%len(in1())], q)
		refused(t, infinities1()[i%len(infinities1())], q)
		refused(t, out1()[i%len(out1())], q)
	}
}

// P16.3: the pairing of a sum is the product of the pairings, on both sides; also of a point and itself, of one and its opposite, and of one and infinity.
func TestPairOfSums(t *testing.T) {
	t.Parallel()
	all1, all2 := append(slices.Clone(in1()), api.G1{Inf: true}), append(slices.Clone(in2()), api.G2{Inf: true})
	random := rand.New(rand.NewSource(1610))
	for i := range 40 {
		a, b := all1[random.Intn(len(all1))], all1[random.Intn(len(all1))]
		c, d := all2[random.Intn(len(all2))], all2[random.Intn(len(all2))]
		switch i % 4 {
		case 0:
			b, d = a, c
		case 1:
			b, d = g1.Neg(a), g2.Neg(c)
		}
		whole := paired(t, a, c)
		checkPair(t, g1.Add(a, b), c, fp12.Mul(whole, paired(t, b, c)))
		checkPair(t, a, g2.Add(c, d), fp12.Mul(whole, paired(t, a, d)))
		all := fp12.Mul(fp12.Mul(whole, paired(t, a, d)), fp12.Mul(paired(t, b, c), paired(t, b, d)))
		checkPair(t, g1.Add(a, b), g2.Add(c, d), all)
	}
}

// P16.3: that of a multiple is the power, on both sides; that of an opposite the inverse, which is the conjugate; r times a point makes it 1.
func TestPairOfMultiples(t *testing.T) {
	t.Parallel()
	random := rand.New(rand.NewSource(1611))
	for i, k := range append(multiples(), big.NewInt(0), order(), new(big.Int).Add(order(), big.NewInt(1))) {
		p, q := in1()[(7*i)%len(in1())], in2()[(5*i)%len(in2())]
		whole := paired(t, p, q)
		power := fp12.Pow(whole, words(k))
		checkPair(t, times1(k, p), q, power)
		checkPair(t, p, times2(k, q), power)
		again := new(big.Int).Rand(random, order())
		checkPair(t, times1(k, p), times2(again, q), fp12.Pow(power, words(again)))
		checkPair(t, times1(again, p), times2(k, q), fp12.Pow(power, words(again)))
		for _, opposite := range []api.Fp12{fp12.Inv(whole), fp12.Conj(whole)} {
			checkPair(t, g1.Neg(p), q, opposite)
			checkPair(t, p, g2.Neg(q), opposite)
		}
		checkPair(t, g1.Neg(p), g2.Neg(q), whole)
	}
}

// some are n points of each curve, of order r, every fourth one, or so, infinity.
func some(n int, random *rand.Rand) ([]api.G1, []api.G2) {
	all1, all2 := slices.Concat(in1(), infinities1()[:8]), slices.Concat(in2(), infinities2()[:8])
	var ps []api.G1
	var qs []api.G2
	for range n {
		ps, qs = append(ps, all1[random.Intn(len(all1))]), append(qs, all2[random.Intn(len(all2))])
	}
	return ps, qs
}

// P16.2: 1 of none, nil or empty, with spare room or without.
func TestProductOfNone(t *testing.T) {
	for _, ps := range [][]api.G1{nil, {}, in1()[:0], out1()[:0]} {
		for _, qs := range [][]api.G2{nil, {}, in2()[:0], out2()[:0]} {
			if got := multiplied(t, ps, qs); got != one() {
				t.Errorf("%X", got)
			}
		}
	}
}

// P16.2: the product of Pair of each two, of one pair, of two and of more, infinity among them; and the power of the product of Miller's numbers, by fp12.
func TestProduct(t *testing.T) {
	t.Parallel()
	random := rand.New(rand.NewSource(1612))
	for n := range 10 {
		ps, qs := some(n, random)
		want, loops := one(), one()
		for i := range ps {
			number, _ := miller.Loop(ps[i], qs[i])
			want, loops = fp12.Mul(want, paired(t, ps[i], qs[i])), fp12.Mul(loops, number)
		}
		if got := multiplied(t, ps, qs); got != want || got != byPower(loops) {
			t.Errorf("%d pairs: %X, want %X", n, got, want)
		}
	}
}

// P16.2: pairs in another order make the same product; pairs with infinity among them change none; nor do a pair and its opposite.
func TestProductOfOtherPairs(t *testing.T) {
	random := rand.New(rand.NewSource(1613))
	for n := 1; n < 6; n++ {
		ps, qs := some(n, random)
		want := multiplied(t, ps, qs)
		same := func(ps []api.G1, qs []api.G2) {
			t.Helper()
			random.Shuffle(len(ps), func(i, j int) {
				ps[i], ps[j] = ps[j], ps[i]
				qs[i], qs[j] = qs[j], qs[i]
			})
			if got := multiplied(t, ps, qs); got != want {
				t.Errorf("%d pairs: %X, want %X", len(ps), got, want)
			}
		}
		p, q := in1()[n], in2()[2*n]
		none1, none2 := infinities1()[n], infinities2()[n]
		same(slices.Clone(ps), slices.Clone(qs))
		same(append(slices.Clone(ps), none1, p, none1), append(slices.Clone(qs), q, none2, none2))
		same(append(slices.Clone(ps), p, g1.Neg(p)), append(slices.Clone(qs), q, q))
		same(append(slices.Clone(ps), other1(p, n), p), append(slices.Clone(qs), g2.Neg(q), q))
	}
}

// P16.2, P16.3: a pair and its opposite make 1; one pair more than once makes its power; the same points paired otherwise another product.
func TestProductOfOnePair(t *testing.T) {
	t.Parallel()
	for i, p := range in1() {
		q := in2()[(5*i+1)%len(in2())]
		whole := paired(t, p, q)
		for j, c := range []struct {
			ps   []api.G1
			qs   []api.G2
			want api.Fp12
		}{
			{[]api.G1{p, g1.Neg(p)}, []api.G2{q, q}, one()},
			{[]api.G1{p, p}, []api.G2{g2.Neg(q), q}, one()},
			{[]api.G1{p, p}, []api.G2{q, q}, fp12.Mul(whole, whole)},
			{[]api.G1{p, other1(p, i), p}, []api.G2{q, q, other2(q, i)}, fp12.Pow(whole, []uint64{3})},
			{[]api.G1{g1.Neg(p), p}, []api.G2{g2.Neg(q), q}, fp12.Mul(whole, whole)},
		} {
			if got := multiplied(t, c.ps, c.qs); got != c.want {
				t.Errorf("%d, %d: %X, want %X", i, j, got, c.want)
			}
		}
	}
	// The bases' multiples 1 and 2, and 2 and 3: 2 + 6, and 3 + 4.
	p, q, whole := g1.Base(), g2.Base(), paired(t, g1.Base(), g2.Base())
	ps, qs := []api.G1{p, in1()[3]}, []api.G2{in2()[3], in2()[6]}
	if got := multiplied(t, ps, qs); got != fp12.Pow(whole, []uint64{8}) || ps[1] != g1.Add(p, p) || qs[0] != g2.Add(q, q) {
		t.Errorf("%X", got)
	}
	slices.Reverse(qs)
	if got := multiplied(t, ps, qs); got != fp12.Pow(whole, []uint64{7}) {
		t.Errorf("%X", got)
	}
}

// P16.2: ErrArg where there are not as many, ahead of ErrSub.
func TestProductOfNotAsMany(t *testing.T) {
	fit1, fit2 := in1()[:4], in2()[:4]
	for n := range 4 {
		for m := range 4 {
			if n == m {
				continue
			}
			for _, ps := range [][]api.G1{fit1, out1()} {
				for _, qs := range [][]api.G2{fit2, out2()} {
					refusedProduct(t, ps[:n], qs[:m], api.ErrArg)
				}
			}
		}
	}
	for _, ps := range [][]api.G1{{{}}, {{Inf: true}}, in1(), out1()} {
		refusedProduct(t, ps, nil, api.ErrArg)
		refusedProduct(t, ps, []api.G2{}, api.ErrArg)
	}
	for _, qs := range [][]api.G2{{{}}, {{Inf: true}}, in2(), out2()} {
		refusedProduct(t, nil, qs, api.ErrArg)
		refusedProduct(t, []api.G1{}, qs, api.ErrArg)
	}
	if int(api.ErrArg) != 1 {
		t.Errorf("%d", api.ErrArg)
	}
}

// P16.2: ErrSub where one of several, on either side, is not of order r, the first, the last or one between, though it stand beside infinity; and where several are not.
func TestProductWithOtherPoints(t *testing.T) {
	t.Parallel()
	random := rand.New(rand.NewSource(1614))
	check := func(ps []api.G1, qs []api.G2) {
		t.Helper()
		refusedProduct(t, ps, qs, api.ErrSub)
	}
	for n := 1; n < 6; n++ {
		for at := range n {
			for range 8 {
				p, q := out1()[random.Intn(len(out1()))], out2()[random.Intn(len(out2()))]
				ps, qs := some(n, random)
				ps[at] = p
				check(ps, qs)
				qs[at] = infinities2()[at]
				check(ps, qs)
				qs[random.Intn(n)] = q
				check(ps, qs)
				ps, qs = some(n, random)
				qs[at] = q
				check(ps, qs)
				ps[at] = infinities1()[at]
				check(ps, qs)
			}
		}
	}
	check(out1(), slices.Repeat(in2()[:1], len(out1())))
	check(slices.Repeat(in1()[:1], len(out2())), out2())
}

// P16.2: points whose sums are of order r are not paired, if they are not so themselves: two of order 3, and two of order 13, that make infinity.
func TestProductOfSumsThatFit(t *testing.T) {
	p, q := small1()[0], small2()[0]
	refusedProduct(t, []api.G1{p, g1.Neg(p)}, []api.G2{g2.Base(), g2.Base()}, api.ErrSub)
	refusedProduct(t, []api.G1{g1.Base(), g1.Base()}, []api.G2{q, g2.Neg(q)}, api.ErrSub)
}

// R4: the slices that are given stay as they were, be there words that are not below p, infinity with numbers beside, or points that are not of order r, spare room too; and they are not kept: changed afterwards, they change no answer.
func TestSlicesAreNeitherChangedNorKept(t *testing.T) {
	ps := []api.G1{other1(in1()[0], 9), infinities1()[1], in1()[4], infinities1()[9], other1(in1()[6], 5), other1(out1()[1], 9), infinities1()[3]}
	qs := []api.G2{infinities2()[1], other2(in2()[0], 9), in2()[4], infinities2()[9], other2(in2()[6], 5), other2(out2()[1], 9), infinities2()[3]}
	for n := range len(ps) {
		mine1, mine2 := slices.Clone(ps), slices.Clone(qs)
		first, e := pairing.Product(mine1[:n], mine2[:n])
		refusedProduct(t, mine1[:n+1], mine2[:n], api.ErrArg)
		if !slices.Equal(mine1, ps) || !slices.Equal(mine2, qs) || (e != api.OK) != (n > 5) {
			t.Errorf("%d pairs: changed, or %v", n, e)
		}
		clear(mine1)
		clear(mine2)
		if again, f := pairing.Product(ps[:n:n], qs[:n:n]); again != first || f != e {
			t.Errorf("%d pairs: %X, %v, then %X, %v", n, first, e, again, f)
		}
	}
}

// answer is what Pair answers.
type answer struct {
	f api.Fp12
	e api.Errno
}

// R5: asked again, in whatever order, the calls answer the same.
func TestAskedAgain(t *testing.T) {
	t.Parallel()
	all1 := slices.Concat(in1()[:8], infinities1()[:3], out1())
	ask := func(i int) [3]answer {
		var all [3]answer
		p, q := all1[i], in2()[i%len(in2())]
		all[0].f, all[0].e = pairing.Pair(p, q)
		all[1].f, all[1].e = pairing.Product([]api.G1{p, g1.Base()}, []api.G2{q, q})
		all[2].f = pairing.Final(made(slots{p.X, p.Y, p.X, 7: q.X.A, 8: p.Y, 11: q.Y.B}))
		return all
	}
	var first [][3]answer
	for i := range all1 {
		first = append(first, ask(i))
	}
	for i := range slices.Backward(all1) {
		if again := ask(i); again != first[i] {
			t.Errorf("%v: %v, then %v", all1[i], first[i], again)
		}
	}
}

// The chapter's section 'Examples', as it stands there.
func TestChapterExamples(t *testing.T) {
	p, q := g1.Base(), g2.Base()
	checkPair(t, api.G1{Inf: true}, q, one())
	if got := multiplied(t, nil, nil); got != one() {
		t.Errorf("%X", got)
	}
	whole := paired(t, p, q)
	square := fp12.Mul(whole, whole)
	checkPair(t, g1.Add(p, p), q, square)
	checkPair(t, p, g2.Add(q, q), square)
	refused(t, api.G1{}, q)
}
