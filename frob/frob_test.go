package frob_test

import (
	"math"
	"math/big"
	"math/rand"
	"slices"
	"strings"
	"sync"
	"testing"

	"sigil/api"
	"sigil/fp12"
	"sigil/fp2"
	"sigil/fp6"
	"sigil/frob"
)

const (
	// size is how many words a part has, count how many parts a number with w.
	size  = 6
	count = 12
)

// top is a word whose bits are all 1.
const top = 1<<64 - 1

// primeDigits are p, as chapter 4 writes it.
const primeDigits = "1A0111EA 397FE69A 4B1BA7B6 434BACD7 64774B84 F38512BF 6730D2A0 F6B0F624 1EABFFFE B153FFFF B9FEFFFF FFFFAAAB"

// prime is p.
var prime = sync.OnceValue(func() *big.Int {
	p, _ := new(big.Int).SetString(strings.ReplaceAll(primeDigits, " ", ""), 16)
	return p
})

// number is what words mean: each times 2^64's power of its place, added.
func number(words []uint64) *big.Int {
	sum := new(big.Int)
	for _, word := range slices.Backward(words) {
		sum.Lsh(sum, 64)
		sum.Add(sum, new(big.Int).SetUint64(word))
	}
	return sum
}

// six are the six words of a number below 2^384.
func six(a *big.Int) api.Fp {
	var all api.Fp
	for i := range all {
		all[i] = new(big.Int).Rsh(a, uint(64*i)).Uint64()
	}
	return all
}

// near is so many times p, and a bit more or less.
func near(times, more int64) api.Fp {
	a := new(big.Int).Mul(prime(), big.NewInt(times))
	return six(a.Add(a, big.NewInt(more)))
}

// ones are six words whose bits are all 1.
func ones() api.Fp { return api.Fp(slices.Repeat([]uint64{top}, size)) }

// drawn are six words, many of which lie at the edges of a word.
func drawn(random *rand.Rand) api.Fp {
	var all api.Fp
	for i := range all {
		switch random.Intn(8) {
		case 0:
			all[i] = 0
		case 1:
			all[i] = top
		case 2:
			all[i] = 1 << random.Intn(64)
		default:
			all[i] = random.Uint64()
		}
	}
	return all
}

// below is a drawn part below p.
func below(random *rand.Rand) api.Fp { return six(new(big.Int).Rand(random, prime())) }

// edges are the parts that edge numbers are made of: 0, 1 and p - 1, p and more, multiples of p, six words all 2^64 - 1.
func edges() []api.Fp {
	return []api.Fp{{}, {1}, near(1, -1), near(1, 0), near(1, 1), near(2, 0), near(9, -1), near(9, 0), ones()}
}

// slots are a number's twelve parts: those of A, then those of B, of each the parts without v first, and of each the one without u first.
type slots [count]api.Fp

// made is the number of twelve parts.
func made(x slots) api.Fp12 {
	two := func(at int) api.Fp2 { return api.Fp2{A: x[at], B: x[at+1]} }
	return api.Fp12{A: api.Fp6{A: two(0), B: two(2), C: two(4)}, B: api.Fp6{A: two(6), B: two(8), C: two(10)}}
}

// pairs are a number's six parts without v and w.
func pairs(a api.Fp12) []api.Fp2 { return []api.Fp2{a.A.A, a.A.B, a.A.C, a.B.A, a.B.B, a.B.C} }

// taken are a number's twelve parts.
func taken(a api.Fp12) slots {
	var x slots
	for i, part := range pairs(a) {
		x[2*i], x[2*i+1] = part.A, part.B
	}
	return x
}

// plain is a number of small parts, as slots has them; those below 0 are the opposites'.
func plain(small ...int64) api.Fp12 {
	var x slots
	for i, part := range small {
		x[i] = six(new(big.Int).Mod(big.NewInt(part), prime()))
	}
	return made(x)
}

// withW is a number without w, of small parts, times w.
func withW(small ...int64) api.Fp12 { return api.Fp12{B: plain(small...).A} }

// named are 0, 1, u, v, w, 1 + u, 1 + w, v·v, v·w, v·v·w, u·w, their like, and a number of all parts.
func named() []api.Fp12 {
	one := plain(1)
	return []api.Fp12{
		plain(), one, plain(0, 1), plain(0, 0, 1), withW(1), plain(1, 1), {A: one.A, B: one.A},
		plain(0, 0, 0, 0, 1), withW(0, 0, 1), withW(0, 0, 0, 0, 1), withW(0, 1), plain(1, 0, 1), plain(-1), withW(-1),
		plain(1, 2, 3, 4, 5, 6, 7, 8, 9, 10, 11, 12),
	}
}

// edgeNumbers are those with one edge in one of the twelve parts, all others being 0, or drawn below p, or drawn; those with an edge in all twelve; and those with one in all parts of A, or of B.
func edgeNumbers() []api.Fp12 {
	random := rand.New(rand.NewSource(1100))
	var all []api.Fp12
	for _, edge := range edges() {
		for slot := range count {
			var none, low, any slots
			for i := range count {
				low[i], any[i] = below(random), drawn(random)
			}
			for _, x := range []slots{none, low, any} {
				x[slot] = edge
				all = append(all, made(x))
			}
		}
		a := made(slots(slices.Repeat([]api.Fp{edge}, count)))
		all = append(all, a, api.Fp12{A: a.A}, api.Fp12{B: a.B})
	}
	return all
}

// drawnNumber is a number of drawn parts, some of which are edges; drawnFull is one of parts below p.
func drawnNumber(random *rand.Rand) api.Fp12 {
	var x slots
	for i := range x {
		x[i] = drawn(random)
		if random.Intn(3) == 0 {
			x[i] = edges()[random.Intn(len(edges()))]
		}
	}
	return made(x)
}

func drawnFull(random *rand.Rand) api.Fp12 {
	var x slots
	for i := range x {
		x[i] = below(random)
	}
	return made(x)
}

// fewParts are numbers that have but some of the six parts of v's and w's powers, noughts being 0 or multiples of p: each choice of parts, so A or B alone too.
func fewParts() []api.Fp12 {
	random := rand.New(rand.NewSource(1101))
	var all []api.Fp12
	for choice := range 1<<6 - 1 {
		for _, nought := range []api.Fp{{}, near(1, 0), near(9, 0)} {
			var x slots
			for i := range x {
				x[i] = nought
				if choice>>(i/2)%2 == 1 {
					x[i] = drawn(random)
				}
			}
			all = append(all, made(x))
		}
	}
	return all
}

// samples are all numbers above, and so many more, drawn.
func samples(more int, seed int64) []api.Fp12 {
	random := rand.New(rand.NewSource(seed))
	all := slices.Concat(named(), edgeNumbers(), fewParts())
	for range more {
		all = append(all, drawnNumber(random), drawnFull(random))
	}
	return all
}

// wide is a number whose twelve parts, in the order of slots, are any of the library's.
type wide [count]*big.Int

// widened is a number as the library's.
func widened(a api.Fp12) wide {
	var x wide
	for i, part := range taken(a) {
		x[i] = number(part[:])
	}
	return x
}

// times is the product of the polynomials in w, v and u: each part of one times each of the other; then v stands in the place of w·w, 1 + u in that of v·v·v, and -1 in that of u·u.
func (x wide) times(y wide) wide {
	// product[i][j][k] is what w^i·v^j·u^k has.
	var product [3][6][4]big.Int
	var term big.Int
	for i, a := range x {
		for j, b := range y {
			to := &product[i/6+j/6][i/2%3+j/2%3][i%2+j%2]
			to.Add(to, term.Mul(a, b))
		}
	}
	for j := range 5 {
		for k := range 4 {
			to := &product[0][j+1][k]
			to.Add(to, &product[2][j][k])
		}
	}
	var left wide
	for i := range 2 {
		rows := &product[i]
		for j := 5; j >= 3; j-- {
			for k := range 3 {
				rows[j-3][k].Add(&rows[j-3][k], &rows[j][k])
				rows[j-3][k+1].Add(&rows[j-3][k+1], &rows[j][k])
			}
		}
		for j := range 3 {
			for k := range 2 {
				left[6*i+2*j+k] = new(big.Int).Sub(&rows[j][k], &rows[j][k+2])
			}
		}
	}
	return left
}

// low is a number with all parts below p, remains the same as ours.
func (x wide) low() wide {
	var left wide
	for i, part := range x {
		left[i] = new(big.Int).Mod(part, prime())
	}
	return left
}

func (x wide) remains() api.Fp12 {
	var left slots
	for i, part := range x.low() {
		left[i] = six(part)
	}
	return made(left)
}

// power is a number's power, bit by bit, of the library's.
func (x wide) power(e *big.Int) wide {
	all := widened(plain(1))
	for bit := e.BitLen() - 1; bit >= 0; bit-- {
		all = all.times(all).low()
		if e.Bit(bit) == 1 {
			all = all.times(x).low()
		}
	}
	return all
}

// turned are, for each n below 12, the powers of p's power of n of the twelve numbers that slots are the parts of: of u and w they are reckoned bit by bit, the others are products of these.
var turned = sync.OnceValue(func() [count][count]wide {
	var all [count][count]wide
	for n := range count {
		e := new(big.Int).Exp(prime(), big.NewInt(int64(n)), nil)
		u, w := widened(plain(0, 1)).power(e), widened(withW(1)).power(e)
		v := w.times(w).low()
		for i := range count {
			x := widened(plain(1))
			for _, factor := range slices.Concat(slices.Repeat([]wide{w}, i/6), slices.Repeat([]wide{v}, i/2%3), slices.Repeat([]wide{u}, i%2)) {
				x = x.times(factor).low()
			}
			all[n][i] = x
		}
	}
	return all
})

// wanted is a number's power of p's power of n: that of a sum is the sum of the powers, and no part is changed by the power of p (Fermat). Those of p's power of 12 are the numbers, as all but 0 are as many as p^12 - 1.
func wanted(a api.Fp12, n int) api.Fp12 {
	on := new(big.Int).Mod(big.NewInt(int64(n)), big.NewInt(count)).Int64()
	sum, term := widened(api.Fp12{}), new(big.Int)
	for i, part := range widened(a) {
		if part.Sign() == 0 {
			continue
		}
		for j, image := range turned()[on][i] {
			sum[j].Add(sum[j], term.Mul(part, image))
		}
	}
	return sum.remains()
}

// every are the n that all calls are asked of: all from -13 to 13, and those about the ends of what an int holds.
func every() []int {
	all := []int{math.MinInt, math.MaxInt}
	for n := -13; n <= 13; n++ {
		all = append(all, n)
	}
	for more := 1; more <= 12; more++ {
		all = append(all, math.MinInt+more, math.MaxInt-more)
	}
	return append(all, math.MinInt32, math.MaxInt32, 1000003, -1000003)
}

// check holds an answer of a and n to what it must be.
func check[N api.Fp2 | api.Fp6 | api.Fp12](t *testing.T, call string, n int, a any, got, want N) {
	t.Helper()
	if got != want {
		t.Errorf("%s(%X, %d): %X, want %X", call, a, n, got, want)
	}
}

// checkAt holds all three calls, of n, to the powers reckoned apart: Fp12 of a number, Fp6 of its two parts, Fp2 of its six.
func checkAt(t *testing.T, a api.Fp12, n int) {
	t.Helper()
	check(t, "Fp12", n, a, frob.Fp12(a, n), wanted(a, n))
	for _, b := range []api.Fp6{a.A, a.B} {
		want := wanted(api.Fp12{A: b}, n)
		check(t, "Fp6", n, b, frob.Fp6(b, n), want.A)
	}
	for _, c := range pairs(a) {
		want := wanted(api.Fp12{A: api.Fp6{A: c}}, n)
		check(t, "Fp2", n, c, frob.Fp2(c, n), want.A.A)
	}
}

// P11.1: n 1 is the power of p, reckoned apart bit by bit, in all three: of the numbers with names, and of each edge in each part.
func TestStepOfOneIsThePowerOfP(t *testing.T) {
	random := rand.New(rand.NewSource(1102))
	all := append(named(), drawnNumber(random), drawnFull(random))
	for _, edge := range edges() {
		for slot := range count {
			x := taken(drawnNumber(random))
			x[slot] = edge
			all = append(all, made(x))
		}
	}
	power := func(a api.Fp12) api.Fp12 { return widened(a).power(prime()).remains() }
	for i, a := range all {
		check(t, "Fp12", 1, a, frob.Fp12(a, 1), power(a))
		b := []api.Fp6{a.A, a.B}[i%2]
		check(t, "Fp6", 1, b, frob.Fp6(b, 1), power(api.Fp12{A: b}).A)
		c := pairs(a)[i%6]
		check(t, "Fp2", 1, c, frob.Fp2(c, 1), power(api.Fp12{A: api.Fp6{A: c}}).A.A)
	}
}

// P11.1: Fp2's and Fp6's n 1 is the power of p, with each edge in each part of what they are asked of.
func TestStepOfOneOfSmallerNumbers(t *testing.T) {
	random := rand.New(rand.NewSource(1103))
	for _, edge := range edges() {
		for slot := range count {
			x := taken(drawnFull(random))
			x[slot] = edge
			b := []api.Fp6{made(x).A, made(x).B}[slot/6]
			check(t, "Fp6", 1, b, frob.Fp6(b, 1), widened(api.Fp12{A: b}).power(prime()).remains().A)
		}
		for _, other := range edges() {
			c := api.Fp2{A: edge, B: other}
			check(t, "Fp2", 1, c, frob.Fp2(c, 1), widened(api.Fp12{A: api.Fp6{A: c}}).power(prime()).remains().A.A)
		}
	}
}

// P11.1: n 2 to 11 are the powers of p's power of n, reckoned apart bit by bit, and so is n 13.
func TestMoreStepsArePowers(t *testing.T) {
	random := rand.New(rand.NewSource(1104))
	for _, n := range []int{2, 3, 4, 5, 6, 7, 8, 9, 10, 11, 13} {
		a := drawnNumber(random)
		e := new(big.Int).Exp(prime(), big.NewInt(int64(n)), nil)
		check(t, "Fp12", n, a, frob.Fp12(a, n), widened(a).power(e).remains())
		check(t, "Fp6", n, a.B, frob.Fp6(a.B, n), widened(api.Fp12{A: a.B}).power(e).remains().A)
		check(t, "Fp2", n, a.A.C, frob.Fp2(a.A.C, n), widened(api.Fp12{A: api.Fp6{A: a.A.C}}).power(e).remains().A.A)
	}
}

// P11.1: all three calls, at every n, of some numbers of each kind.
func TestEveryN(t *testing.T) {
	all := samples(20, 1105)
	random := rand.New(rand.NewSource(1106))
	for _, n := range every() {
		for _, a := range named() {
			checkAt(t, a, n)
		}
		for range 30 {
			checkAt(t, all[random.Intn(len(all))], n)
		}
	}
}

// P11.1: all three calls with each edge in each part, at each n of a period and the one below 0.
func TestEdgesInEachPart(t *testing.T) {
	for i, a := range edgeNumbers() {
		for _, n := range []int{0, 1, 2 + i%10, -1, -2 - i%11} {
			checkAt(t, a, n)
		}
	}
}

// P11.1: of any words, and of numbers of few parts.
func TestDrawnNumbers(t *testing.T) {
	for i, a := range samples(400, 1107) {
		checkAt(t, a, i%12)
		checkAt(t, a, -i%13)
	}
}

// P11.1: of an n below 0 it is the number whose power of p's power of -n is the one asked of.
func TestStepsBack(t *testing.T) {
	all := samples(20, 1108)
	random := rand.New(rand.NewSource(1109))
	for n := 1; n <= 13; n++ {
		for _, a := range append(named(), all[random.Intn(len(all))], all[random.Intn(len(all))], drawnNumber(random), drawnFull(random)) {
			back := frob.Fp12(a, -n)
			check(t, "the power of Fp12", -n, a, wanted(back, n), fp12.Reduce(a))
			check(t, "Fp12 of Fp12", -n, a, frob.Fp12(back, n), fp12.Reduce(a))
			check(t, "Fp12 behind Fp12", n, a, frob.Fp12(frob.Fp12(a, n), -n), fp12.Reduce(a))
			of6 := frob.Fp6(a.B, -n)
			check(t, "the power of Fp6", -n, a.B, wanted(api.Fp12{A: of6}, n).A, fp6.Reduce(a.B))
			check(t, "Fp6 of Fp6", -n, a.B, frob.Fp6(of6, n), fp6.Reduce(a.B))
			of2 := frob.Fp2(a.A.B, -n)
			check(t, "the power of Fp2", -n, a.A.B, wanted(api.Fp12{A: api.Fp6{A: of2}}, n).A.A, fp2.Reduce(a.A.B))
			check(t, "Fp2 of Fp2", -n, a.A.B, frob.Fp2(of2, n), fp2.Reduce(a.A.B))
		}
	}
}

// P11.1: from the smallest int, whose opposite no int is, as from the greatest, -n - 1 leads back but for one step.
func TestStepsBackFromTheEnds(t *testing.T) {
	random := rand.New(rand.NewSource(1110))
	for _, n := range []int{math.MinInt, math.MinInt + 1, math.MaxInt, math.MaxInt - 1} {
		for range 20 {
			a := drawnNumber(random)
			check(t, "Fp12", n, a, frob.Fp12(frob.Fp12(frob.Fp12(a, n), ^n), 1), fp12.Reduce(a))
			check(t, "Fp6", n, a.A, frob.Fp6(frob.Fp6(frob.Fp6(a.A, n), ^n), 1), fp6.Reduce(a.A))
			check(t, "Fp2", n, a.B.C, frob.Fp2(frob.Fp2(frob.Fp2(a.B.C, n), ^n), 1), fp2.Reduce(a.B.C))
		}
	}
}

// P11.1: n 0 is the number itself, below p.
func TestNoStep(t *testing.T) {
	for _, a := range samples(200, 1111) {
		low := widened(a).remains()
		check(t, "Fp12", 0, a, frob.Fp12(a, 0), low)
		check(t, "Fp6", 0, a.A, frob.Fp6(a.A, 0), low.A)
		check(t, "Fp6", 0, a.B, frob.Fp6(a.B, 0), low.B)
		for i, part := range pairs(a) {
			check(t, "Fp2", 0, part, frob.Fp2(part, 0), pairs(low)[i])
		}
	}
}

// P11.1: the powers come again behind 2, 6 and 12, and not before, of numbers that have all parts.
func TestPeriods(t *testing.T) {
	random := rand.New(rand.NewSource(1112))
	a, low := drawnNumber(random), drawnFull(random)
	for _, n := range every() {
		for _, more := range []int{2, 6, 12, 24, -2, -6, -12, -24} {
			if (more > 0) != (n+more > n) {
				continue
			}
			check(t, "Fp2", n, a.B.A, frob.Fp2(a.B.A, n+more), frob.Fp2(a.B.A, n))
			if more%6 == 0 {
				check(t, "Fp6", n, a.B, frob.Fp6(a.B, n+more), frob.Fp6(a.B, n))
			}
			if more%12 == 0 {
				check(t, "Fp12", n, a, frob.Fp12(a, n+more), frob.Fp12(a, n))
			}
		}
	}
	for n := range 12 {
		if (frob.Fp2(low.A.A, n) == low.A.A) != (n%2 == 0) || (frob.Fp6(low.A, n) == low.A) != (n%6 == 0) || (frob.Fp12(low, n) == low) != (n == 0) {
			t.Errorf("%X: n %d does not tell whether the number comes again", low, n)
		}
	}
}

// P11.1: one step more is one power of p more.
func TestOneStepMore(t *testing.T) {
	random := rand.New(rand.NewSource(1113))
	p := six(prime())
	all := append(named(), samples(20, 1114)...)
	for n := -13; n <= 13; n++ {
		for _, a := range []api.Fp12{drawnNumber(random), all[random.Intn(len(all))], named()[(n+13)%len(named())]} {
			check(t, "Fp12", n, a, fp12.Pow(frob.Fp12(a, n), p[:]), frob.Fp12(a, n+1))
			check(t, "Fp6", n, a.A, fp12.Pow(api.Fp12{A: frob.Fp6(a.A, n)}, p[:]).A, frob.Fp6(a.A, n+1))
			check(t, "Fp2", n, a.B.B, fp2.Pow(frob.Fp2(a.B.B, n), p[:]), frob.Fp2(a.B.B, n+1))
		}
	}
}

// P11.1: steps behind steps are as many as both together.
func TestStepsBehindSteps(t *testing.T) {
	random := rand.New(rand.NewSource(1115))
	for n := -13; n <= 13; n++ {
		for m := -13; m <= 13; m++ {
			a := drawnNumber(random)
			check(t, "Fp12", n, a, frob.Fp12(frob.Fp12(a, n), m), frob.Fp12(a, n+m))
			check(t, "Fp6", n, a.B, frob.Fp6(frob.Fp6(a.B, n), m), frob.Fp6(a.B, n+m))
			check(t, "Fp2", n, a.A.A, frob.Fp2(frob.Fp2(a.A.A, n), m), frob.Fp2(a.A.A, n+m))
		}
	}
}

// P11.2: of n 6, and of those 12 apart from it, a number becomes its conjugate; one without w stays.
func TestSixStepsMakeTheConjugate(t *testing.T) {
	for _, a := range samples(200, 1116) {
		for _, n := range []int{6, -6, 18, -18, 6 + 12*1000003} {
			check(t, "Fp12", n, a, frob.Fp12(a, n), fp12.Conj(a))
			check(t, "Fp6", n, a.A, frob.Fp6(a.A, n), fp6.Reduce(a.A))
			check(t, "Fp2", n, a.A.A, frob.Fp2(a.A.A, n), fp2.Reduce(a.A.A))
		}
	}
}

// P11.2: an odd n makes a number with u its conjugate.
func TestOddStepsMakeTheConjugateOfNumbersWithU(t *testing.T) {
	for _, a := range samples(100, 1117) {
		for _, part := range pairs(a) {
			for _, n := range []int{1, -1, 3, -3, 11, 13, -13, math.MaxInt, math.MinInt + 1} {
				check(t, "Fp2", n, part, frob.Fp2(part, n), fp2.Conj(part))
			}
		}
	}
}

// P11.2: the powers of sums and products, of differences, opposites, inverses and powers too, are those of the powers.
func TestSumsAndProducts(t *testing.T) {
	all := samples(100, 1118)
	random := rand.New(rand.NewSource(1119))
	for _, n := range every() {
		for range 40 {
			a, b := all[random.Intn(len(all))], all[random.Intn(len(all))]
			x, y := frob.Fp12(a, n), frob.Fp12(b, n)
			check(t, "Fp12 of a sum", n, a, frob.Fp12(fp12.Add(a, b), n), fp12.Add(x, y))
			check(t, "Fp12 of a difference", n, a, frob.Fp12(fp12.Sub(a, b), n), fp12.Sub(x, y))
			check(t, "Fp12 of a product", n, a, frob.Fp12(fp12.Mul(a, b), n), fp12.Mul(x, y))
			check(t, "Fp12 of an opposite", n, a, frob.Fp12(fp12.Neg(a), n), fp12.Neg(x))
			check(t, "Fp12 of an inverse", n, a, frob.Fp12(fp12.Inv(a), n), fp12.Inv(x))
			check(t, "Fp12 of a conjugate", n, a, frob.Fp12(fp12.Conj(a), n), fp12.Conj(x))
			check(t, "Fp12 of a power", n, a, frob.Fp12(fp12.Pow(a, []uint64{5}), n), fp12.Pow(x, []uint64{5}))
			checkSmallerSums(t, a.A, b.B, n)
		}
	}
}

// checkSmallerSums holds Fp6, of two numbers, and Fp2, of two of their parts, to the same.
func checkSmallerSums(t *testing.T, a, b api.Fp6, n int) {
	t.Helper()
	x, y := frob.Fp6(a, n), frob.Fp6(b, n)
	check(t, "Fp6 of a sum", n, a, frob.Fp6(fp6.Add(a, b), n), fp6.Add(x, y))
	check(t, "Fp6 of a difference", n, a, frob.Fp6(fp6.Sub(a, b), n), fp6.Sub(x, y))
	check(t, "Fp6 of a product", n, a, frob.Fp6(fp6.Mul(a, b), n), fp6.Mul(x, y))
	check(t, "Fp6 of an inverse", n, a, frob.Fp6(fp6.Inv(a), n), fp6.Inv(x))
	check(t, "Fp6 of a multiple", n, a, frob.Fp6(fp6.Scale(a, b.C), n), fp6.Scale(x, frob.Fp2(b.C, n)))
	c, d := a.B, b.C
	z, k := frob.Fp2(c, n), frob.Fp2(d, n)
	check(t, "Fp2 of a sum", n, c, frob.Fp2(fp2.Add(c, d), n), fp2.Add(z, k))
	check(t, "Fp2 of a difference", n, c, frob.Fp2(fp2.Sub(c, d), n), fp2.Sub(z, k))
	check(t, "Fp2 of a product", n, c, frob.Fp2(fp2.Mul(c, d), n), fp2.Mul(z, k))
	check(t, "Fp2 of an inverse", n, c, frob.Fp2(fp2.Inv(c), n), fp2.Inv(z))
}

// P11.1: a number without w is Fp6's, one without v is Fp2's, one without u stays; one of B alone is w's power times that of B.
func TestSmallerNumbers(t *testing.T) {
	random := rand.New(rand.NewSource(1120))
	all := samples(20, 1121)
	for _, n := range every() {
		w := frob.Fp12(withW(1), n)
		for range 20 {
			a := all[random.Intn(len(all))]
			check(t, "Fp12 without w", n, a.A, frob.Fp12(api.Fp12{A: a.A}, n).A, frob.Fp6(a.A, n))
			check(t, "Fp12 without w", n, a.A, frob.Fp12(api.Fp12{A: a.A}, n).B, api.Fp6{})
			ofB := frob.Fp12(api.Fp12{B: a.B}, n)
			check(t, "Fp12 of B alone", n, api.Fp12{B: a.B}, ofB, fp12.Mul(w, api.Fp12{A: frob.Fp6(a.B, n)}))
			check(t, "Fp12 of B alone", n, a.B, ofB.A, api.Fp6{})
			withoutV := api.Fp6{A: a.A.C}
			own := api.Fp6{A: frob.Fp2(a.A.C, n)}
			check(t, "Fp6 without v", n, withoutV, frob.Fp6(withoutV, n), own)
			check(t, "Fp12 without v and w", n, api.Fp12{A: withoutV}, frob.Fp12(api.Fp12{A: withoutV}, n), api.Fp12{A: own})
			withoutU := api.Fp2{A: a.A.C.A}
			check(t, "Fp2 without u", n, withoutU, frob.Fp2(withoutU, n), fp2.Reduce(withoutU))
		}
	}
}

// P11.1: what u, v, v·v and w become, as chapter 14's numbers tell it: there the inverses of (1 + u)'s powers of (p - 1) / 3 and (p - 1) / 2 are written.
func TestStepsOfUnits(t *testing.T) {
	words := func(digits string) api.Fp {
		a, _ := new(big.Int).SetString(strings.ReplaceAll(digits, " ", ""), 16)
		return six(a)
	}
	third := api.Fp2{B: words("1A0111EA 397FE699 EC024086 63D4DE85 AA0D857D 89759AD4 897D2965 0FB85F9B 409427EB 4F49FFFD 8BFD0000 0000AAAD")}
	half := api.Fp2{
		A: words("135203E6 0180A68E E2E9C448 D77A2CD9 1C3DEDD9 30B1CF60 EF396489 F61EB45E 304466CF 3E67FA0A F1EE7B04 121BDEA2"),
		B: words("06AF0E04 37FF400B 6831E36D 6BD17FFE 48395DAB C2D3435E 77F76E17 009241C5 EE67992F 72EC05F4 C81084FB EDE3CC09"),
	}
	v, cube := api.Fp6{B: api.Fp2{A: api.Fp{1}}}, withW(0, 0, 1)
	check(t, "Fp6 of v", 1, v, fp6.Scale(frob.Fp6(v, 1), third), v)
	check(t, "Fp6 of v·v", 1, v, fp6.Scale(frob.Fp6(fp6.V(v), 1), fp2.Mul(third, third)), fp6.V(v))
	check(t, "Fp12 of w·w·w", 1, cube, fp12.Mul(frob.Fp12(cube, 1), api.Fp12{A: api.Fp6{A: half}}), cube)
	sixth := frob.Fp12(withW(1), 1).B.A
	check(t, "Fp12 of w, its number cubed", 1, withW(1), fp2.Mul(fp2.Pow(sixth, []uint64{3}), half), api.Fp2{A: api.Fp{1}})
	check(t, "Fp12 of w, its number squared", 1, withW(1), fp2.Mul(fp2.Pow(sixth, []uint64{2}), third), api.Fp2{A: api.Fp{1}})
}

// R4, R5: asked again, in another order, and with other words for the same parts, a call answers the same; what is answered may be changed, and later answers stay.
func TestAnswersHangOnTheArgumentsAlone(t *testing.T) {
	random := rand.New(rand.NewSource(1122))
	type answers struct {
		a api.Fp12
		b api.Fp6
		c api.Fp2
	}
	ask := func(a api.Fp12, n int) answers { return answers{frob.Fp12(a, n), frob.Fp6(a.B, n), frob.Fp2(a.B.C, n)} }
	all, ns := samples(20, 1123), every()
	first := make([]answers, len(all))
	for i, a := range all {
		first[i] = ask(a, ns[i%len(ns)])
		changed := first[i]
		changed.a.B.C.A[5], changed.b.A.B[0], changed.c.B[0] = top, top, top
	}
	for i, a := range slices.Backward(all) {
		n := ns[i%len(ns)]
		if again := ask(a, n); again != first[i] {
			t.Errorf("%X, %d: %X, and asked again %X", a, n, first[i], again)
		}
		other := taken(widened(a).remains())
		for slot, part := range other {
			more := new(big.Int).Mul(prime(), big.NewInt(random.Int63n(9)))
			other[slot] = six(more.Add(more, number(part[:])))
		}
		if again := ask(made(other), n); again != first[i] {
			t.Errorf("%X, %d: %X, and with multiples of p added %X", a, n, first[i], again)
		}
	}
}

// The chapter's section 'Examples', as it stands there.
func TestChapterExamples(t *testing.T) {
	u, w := api.Fp2{B: api.Fp{1}}, api.Fp12{B: api.Fp6{A: api.Fp2{A: api.Fp{1}}}}
	check(t, "Fp2", 1, u, frob.Fp2(u, 1), fp2.Neg(u))
	check(t, "Fp2", 2, u, frob.Fp2(u, 2), u)
	check(t, "Fp2", -1, u, frob.Fp2(u, -1), fp2.Neg(u))
	check(t, "Fp12", 6, w, frob.Fp12(w, 6), fp12.Neg(w))
	check(t, "Fp12", 12, w, frob.Fp12(w, 12), w)
}
