package fp12_test

import (
	"math/big"
	"math/rand"
	"slices"
	"strings"
	"testing"

	"sigil/api"
	"sigil/fp12"
	"sigil/fp6"
)

const (
	// size is how many words a part has, count how many parts a number.
	size  = 6
	count = 12
)

// top is a word whose bits are all 1.
const top = 1<<64 - 1

// primeDigits are p, as chapter 4 writes it.
const primeDigits = "1A0111EA 397FE69A 4B1BA7B6 434BACD7 64774B84 F38512BF 6730D2A0 F6B0F624 1EABFFFE B153FFFF B9FEFFFF FFFFAAAB"

// prime is p.
func prime() *big.Int {
	p, _ := new(big.Int).SetString(strings.ReplaceAll(primeDigits, " ", ""), 16)
	return p
}

// primePower is p's power of n, and so many more.
func primePower(n, more int64) *big.Int {
	a := new(big.Int).Exp(prime(), big.NewInt(n), nil)
	return a.Add(a, big.NewInt(more))
}

// number is what words mean: each times 2^64's power of its place, added.
func number(words []uint64) *big.Int {
	sum := new(big.Int)
	for _, word := range slices.Backward(words) {
		sum.Lsh(sum, 64)
		sum.Add(sum, new(big.Int).SetUint64(word))
	}
	return sum
}

// words are n words of a number that they hold.
func words(a *big.Int, n int) []uint64 {
	all := make([]uint64, n)
	for i := range all {
		all[i] = new(big.Int).Rsh(a, uint(64*i)).Uint64()
	}
	return all
}

// six are the six words of a number below 2^384.
func six(a *big.Int) api.Fp { return api.Fp(words(a, size)) }

// near is so many times p, and a bit more or less.
func near(times, more int64) api.Fp {
	a := new(big.Int).Mul(prime(), big.NewInt(times))
	return six(a.Add(a, big.NewInt(more)))
}

// ones are n words whose bits are all 1.
func ones(n int) []uint64 { return slices.Repeat([]uint64{top}, n) }

// drawn are n words, many of which lie at the edges of a word.
func drawn(random *rand.Rand, n int) []uint64 {
	all := make([]uint64, n)
	for i := range all {
		switch random.Intn(8) {
		case 0:
			all[i] = 0
		case 1:
			all[i] = top
		case 2:
			all[i] = 1 << random.Intn(64)
		case 3:
			all[i] = top - uint64(random.Intn(3))
		default:
			all[i] = random.Uint64()
		}
	}
	return all
}

// edges are the parts that the chapter's edges are made of: 0, 1 and p - 1, p and more, multiples of p, six words all 2^64 - 1.
func edges() []api.Fp {
	return []api.Fp{{}, {1}, near(1, -1), near(1, 0), near(1, 1), near(2, 0), near(9, -1), near(9, 0), api.Fp(ones(size))}
}

// parts are the edges, numbers of few bits, about half of p and about its multiples, and drawn ones, below p and not.
func parts() []api.Fp {
	all := append(edges(), api.Fp{2}, api.Fp{top}, api.Fp{0, 1}, api.Fp{5: 1 << 63}, api.Fp{0, 0, top, top}, near(1, -2), near(3, 1), near(8, -1))
	half := new(big.Int).Rsh(prime(), 1)
	all = append(all, six(half), six(half.Add(half, big.NewInt(1))))
	random := rand.New(rand.NewSource(110))
	for range 10 {
		all = append(all, api.Fp(drawn(random, size)), six(new(big.Int).Rand(random, prime())))
	}
	return all
}

// slots are a number's twelve parts: those of A, then those of B, of each the parts without v first, and of each the one without u first.
type slots [count]api.Fp

// made is the number of twelve parts.
func made(x slots) api.Fp12 {
	two := func(at int) api.Fp2 { return api.Fp2{A: x[at], B: x[at+1]} }
	return api.Fp12{A: api.Fp6{A: two(0), B: two(2), C: two(4)}, B: api.Fp6{A: two(6), B: two(8), C: two(10)}}
}

// taken are a number's twelve parts.
func taken(a api.Fp12) slots {
	var x slots
	for i, part := range []api.Fp2{a.A.A, a.A.B, a.A.C, a.B.A, a.B.B, a.B.C} {
		x[2*i], x[2*i+1] = part.A, part.B
	}
	return x
}

// drawnNumber is a number, each of whose parts is one of some, drawn.
func drawnNumber(random *rand.Rand, parts []api.Fp) api.Fp12 {
	var x slots
	for i := range x {
		x[i] = parts[random.Intn(len(parts))]
	}
	return made(x)
}

// edgeNumbers are those with one edge in one of the twelve parts, all other parts being 0, or 1, or drawn below p, or drawn; those with an edge in all twelve; and those with one edge in all parts of A, or of B.
func edgeNumbers() []api.Fp12 {
	random := rand.New(rand.NewSource(111))
	var all []api.Fp12
	for _, edge := range edges() {
		for slot := range count {
			var none, units, below, any slots
			for i := range count {
				units[i], below[i], any[i] = api.Fp{1}, six(new(big.Int).Rand(random, prime())), api.Fp(drawn(random, size))
			}
			for _, x := range []slots{none, units, below, any} {
				x[slot] = edge
				all = append(all, made(x))
			}
		}
		var x slots
		for i := range x {
			x[i] = edge
		}
		a := made(x)
		all = append(all, a, api.Fp12{A: a.A}, api.Fp12{B: a.B})
	}
	return all
}

// plain is a number of small parts, as slots has them; those below 0 are the opposites'.
func plain(small ...int64) api.Fp12 {
	var x slots
	for i, part := range small {
		x[i] = six(new(big.Int).Mod(big.NewInt(part), prime()))
	}
	return made(x)
}

// withW is a number without w, of small parts, times w.
func withW(small ...int64) api.Fp12 { return api.Fp12{B: plain(small...).A} }

// joined is a number of two of plain's, the second's B being let go.
func joined(a, b api.Fp12) api.Fp12 { return api.Fp12{A: a.A, B: b.A} }

// sparse are numbers that have but some of the six parts of v's and w's powers: for each choice of parts some small, some drawn, some with noughts written as multiples of p.
func sparse() []api.Fp12 {
	random := rand.New(rand.NewSource(112))
	var all []api.Fp12
	for choice := range 1<<6 - 1 {
		for kind := range 6 {
			var x slots
			for place := range 6 {
				part := x[2*place : 2*place+2]
				switch {
				case choice>>place%2 == 1 && kind < 3:
					part[0], part[1] = [...]api.Fp{{1}, {}, {1}}[kind], [...]api.Fp{{}, {1}, {1}}[kind]
				case choice>>place%2 == 1:
					part[0], part[1] = api.Fp(drawn(random, size)), six(new(big.Int).Rand(random, prime()))
				case kind == 5:
					part[0], part[1] = near(1, 0), near(2, 0)
				}
			}
			all = append(all, made(x))
		}
	}
	return all
}

// samples are all numbers above, and so many more, drawn.
func samples(more int, seed int64) []api.Fp12 {
	return append(append(edgeNumbers(), sparse()...), many(more, seed)...)
}

// some are so many of the samples, drawn, and 0, 1, u, v, w, 1 + u, 1 + w.
func some(n int, seed int64) []api.Fp12 {
	all, chosen := samples(n, seed), []api.Fp12{plain(), plain(1), plain(0, 1), plain(0, 0, 1), withW(1), plain(1, 1), joined(plain(1), plain(1))}
	random := rand.New(rand.NewSource(seed))
	for range n {
		chosen = append(chosen, all[random.Intn(len(all))])
	}
	return chosen
}

// many are so many numbers of the parts above.
func many(n int, seed int64) []api.Fp12 {
	random, pool := rand.New(rand.NewSource(seed)), parts()
	var all []api.Fp12
	for range n {
		all = append(all, drawnNumber(random, pool))
	}
	return all
}

// wide is a number whose twelve parts, in the order of slots, are any of the library's.
type wide [count]*big.Int

// widened is a number as the library's.
func widened(a api.Fp12) wide {
	var x wide
	for i, part := range taken(a) {
		x[i] = number(part[:])
	}
	return x
}

// each are two numbers' parts, put together one by one.
func (x wide) each(y wide, together func(sum, a, b *big.Int) *big.Int) wide {
	var all wide
	for i := range all {
		all[i] = together(new(big.Int), x[i], y[i])
	}
	return all
}

// plus is a sum, less a difference.
func (x wide) plus(y wide) wide { return x.each(y, (*big.Int).Add) }
func (x wide) less(y wide) wide { return x.each(y, (*big.Int).Sub) }

// times is the product of the polynomials in w, v and u: each part of one times each of the other; then v stands in the place of w·w, 1 + u in that of v·v·v, and -1 in that of u·u.
func (x wide) times(y wide) wide {
	// product[i][j][k] is what w^i·v^j·u^k has.
	var product [3][6][4]big.Int
	var term big.Int
	for i, a := range x {
		for j, b := range y {
			to := &product[i/6+j/6][i/2%3+j/2%3][i%2+j%2]
			to.Add(to, term.Mul(a, b))
		}
	}
	for j := range 5 {
		for k := range 4 {
			to := &product[0][j+1][k]
			to.Add(to, &product[2][j][k])
		}
	}
	var left wide
	for i := range 2 {
		rows := &product[i]
		for j := 5; j >= 3; j-- {
			for k := range 3 {
				rows[j-3][k].Add(&rows[j-3][k], &rows[j][k])
				rows[j-3][k+1].Add(&rows[j-3][k+1], &rows[j][k])
			}
		}
		for j := range 3 {
			for k := range 2 {
				left[6*i+2*j+k] = new(big.Int).Sub(&rows[j][k], &rows[j][k+2])
			}
		}
	}
	return left
}

// remains is a number below p in all parts.
func (x wide) remains() api.Fp12 {
	p := prime()
	var left slots
	for i, part := range x {
		left[i] = six(new(big.Int).Mod(part, p))
	}
	return made(left)
}

// power is a number's power, bit by bit, of the library's.
func (x wide) power(e *big.Int) wide {
	all := widened(plain(1))
	for bit := e.BitLen() - 1; bit >= 0; bit-- {
		all = all.times(all)
		if e.Bit(bit) == 1 {
			all = all.times(x)
		}
		all = widened(all.remains())
	}
	return all
}

// check holds an answer to a number: its parts are that one's modulo p, and below p.
func check(t *testing.T, call string, got api.Fp12, want wide) {
	t.Helper()
	if must := want.remains(); got != must {
		t.Errorf("%s: %X, want %X", call, got, must)
	}
}

// pair are an answer, and what it must be.
type pair struct{ got, want api.Fp12 }

// checkAll holds answers to what they must be.
func checkAll(t *testing.T, all []pair) {
	t.Helper()
	for i, c := range all {
		if c.got != c.want {
			t.Errorf("%d: %X, want %X", i, c.got, c.want)
		}
	}
}

// isZero tells whether p divides all parts of a number.
func isZero(a api.Fp12) bool { return widened(a).remains() == api.Fp12{} }

// oneOrNone is what a number's product with its inverse must be: 1, but of 0 it is 0.
func oneOrNone(a api.Fp12) api.Fp12 {
	if isZero(a) {
		return api.Fp12{}
	}
	return plain(1)
}

// checkOne holds the calls of one number to the library's.
func checkOne(t *testing.T, a api.Fp12) {
	t.Helper()
	x := widened(a)
	opposite := widened(api.Fp12{}).less(x)
	check(t, "Reduce", fp12.Reduce(a), x)
	check(t, "Neg", fp12.Neg(a), opposite)
	check(t, "Mul with itself", fp12.Mul(a, a), x.times(x))
	conjugate := x
	copy(conjugate[count/2:], opposite[count/2:])
	check(t, "Conj", fp12.Conj(a), conjugate)
	inverse := fp12.Inv(a)
	check(t, "a number times its inverse", oneOrNone(a), widened(inverse).times(x))
	if inverse != widened(inverse).remains() || isZero(inverse) != isZero(a) {
		t.Errorf("%X: inverse %X", a, inverse)
	}
}

// checkTwo holds the calls of two numbers to the library's.
func checkTwo(t *testing.T, a, b api.Fp12) {
	t.Helper()
	x, y := widened(a), widened(b)
	check(t, "Add", fp12.Add(a, b), x.plus(y))
	check(t, "Sub", fp12.Sub(a, b), x.less(y))
	check(t, "Mul", fp12.Mul(a, b), x.times(y))
}

// P10.1: the calls of one number, with each edge in each part.
func TestCallsOfOneNumber(t *testing.T) {
	for _, a := range samples(800, 113) {
		checkOne(t, a)
	}
}

// P10.1: the calls of one number, at all numbers with parts 0 or six words all 2^64 - 1, and at all with parts 1 or p.
func TestCallsOfOneNumberWithAllChoicesOfParts(t *testing.T) {
	for _, pool := range [][2]api.Fp{{{}, api.Fp(ones(size))}, {{1}, near(1, 0)}} {
		for choice := range 1 << count {
			var x slots
			for i := range x {
				x[i] = pool[choice>>i%2]
			}
			checkOne(t, made(x))
		}
	}
}

// P10.1: the calls of two numbers, with each edge in each part of one, and each edge in each part of the other.
func TestCallsOfTwoEdges(t *testing.T) {
	random := rand.New(rand.NewSource(114))
	pool := parts()
	for _, edge := range edges() {
		for _, other := range edges() {
			for slot := range count {
				for place := range count {
					x, y := taken(drawnNumber(random, pool)), taken(drawnNumber(random, pool))
					x[slot], y[place] = edge, other
					checkTwo(t, made(x), made(y))
				}
			}
		}
	}
}

// P10.1: edges and sparse numbers, each with another one, either way round, and with itself.
func TestCallsOfTwoNumbersOfFewParts(t *testing.T) {
	all := append(edgeNumbers(), sparse()...)
	random := rand.New(rand.NewSource(115))
	for _, a := range all {
		for range 5 {
			b := all[random.Intn(len(all))]
			checkTwo(t, a, b)
			checkTwo(t, b, a)
		}
		checkTwo(t, a, a)
	}
}

// P10.1: drawn numbers, below p and not.
func TestCallsOfTwoDrawnNumbers(t *testing.T) {
	random := rand.New(rand.NewSource(116))
	for range 3000 {
		var x, y slots
		for i := range count {
			x[i], y[i] = api.Fp(drawn(random, size)), six(new(big.Int).Rand(random, prime()))
		}
		checkTwo(t, made(x), made(y))
		checkTwo(t, made(y), made(x))
	}
}

// P10.1: sums, differences, opposites and conjugates of small numbers.
func TestSmallSums(t *testing.T) {
	none, one, w := plain(), plain(1), withW(1)
	all := plain(1, 2, 3, 4, 5, 6, 7, 8, 9, 10, 11, 12)
	opposites := plain(-1, -2, -3, -4, -5, -6, -7, -8, -9, -10, -11, -12)
	checkAll(t, []pair{
		{fp12.Reduce(none), none},
		{fp12.Reduce(made(slots{near(1, 1), near(2, 0), near(9, 2), near(1, 0), near(3, 4), near(1, -1), near(2, 1), near(1, 0), near(4, -1), near(5, 5), near(6, 0), near(9, 9)})), plain(1, 0, 2, 0, 4, -1, 1, 0, -1, 5, 0, 9)},
		{fp12.Add(all, plain(10, 20, 30, 40, 50, 60, 70, 80, 90, 100, 110, 120)), plain(11, 22, 33, 44, 55, 66, 77, 88, 99, 110, 121, 132)},
		{fp12.Add(all, opposites), none},
		{fp12.Add(all, plain(-2, -2, -2, -2, -2, -2, -8, -8, -8, -8, -8, -8)), plain(-1, 0, 1, 2, 3, 4, -1, 0, 1, 2, 3, 4)},
		{fp12.Sub(all, plain(10, 20, 30, 40, 50, 60, 70, 80, 90, 100, 110, 120)), plain(-9, -18, -27, -36, -45, -54, -63, -72, -81, -90, -99, -108)},
		{fp12.Sub(all, all), none},
		{fp12.Sub(none, all), opposites},
		{fp12.Add(one, w), joined(one, one)},
		{fp12.Sub(one, w), joined(one, plain(-1))},
		{fp12.Neg(all), opposites},
		{fp12.Neg(joined(plain(-1), plain(0, -3))), joined(one, plain(0, 3))},
		{fp12.Neg(none), none},
		{fp12.Conj(none), none},
		{fp12.Conj(one), one},
		{fp12.Conj(w), withW(-1)},
		{fp12.Conj(joined(one, one)), joined(one, plain(-1))},
		{fp12.Conj(all), plain(1, 2, 3, 4, 5, 6, -7, -8, -9, -10, -11, -12)},
		{fp12.Conj(opposites), plain(-1, -2, -3, -4, -5, -6, 7, 8, 9, 10, 11, 12)},
	})
}

// P10.1: products of 0, 1, u, v, w, 1 + u, 1 + w and small numbers.
func TestSmallProducts(t *testing.T) {
	none, one, u, v, vv, xi := plain(), plain(1), plain(0, 1), plain(0, 0, 1), plain(0, 0, 0, 0, 1), plain(1, 1)
	w, both := withW(1), joined(one, one)
	all := plain(1, 2, 3, 4, 5, 6, 7, 8, 9, 10, 11, 12)
	checkAll(t, []pair{
		{fp12.Mul(none, all), none},
		{fp12.Mul(all, none), none},
		{fp12.Mul(one, all), all},
		{fp12.Mul(all, one), all},
		{fp12.Mul(u, u), plain(-1)},
		{fp12.Mul(u, all), plain(-2, 1, -4, 3, -6, 5, -8, 7, -10, 9, -12, 11)},
		{fp12.Mul(v, vv), xi},
		{fp12.Mul(v, all), plain(-1, 11, 1, 2, 3, 4, -1, 23, 7, 8, 9, 10)},
		{fp12.Mul(xi, all), plain(-1, 3, -1, 7, -1, 11, -1, 15, -1, 19, -1, 23)},
		{fp12.Mul(w, w), v},
		{fp12.Mul(w, v), withW(0, 0, 1)},
		{fp12.Mul(withW(0, 0, 1), w), vv},
		{fp12.Mul(withW(0, 0, 1), withW(0, 0, 1)), xi},
		{fp12.Mul(withW(0, 0, 0, 0, 1), w), xi},
		{fp12.Mul(w, u), withW(0, 1)},
		{fp12.Mul(w, all), plain(-1, 23, 7, 8, 9, 10, 1, 2, 3, 4, 5, 6)},
		{fp12.Mul(all, w), plain(-1, 23, 7, 8, 9, 10, 1, 2, 3, 4, 5, 6)},
		{fp12.Mul(both, joined(one, plain(-1))), plain(1, 0, -1)},
		{fp12.Mul(both, both), joined(plain(1, 0, 1), plain(2))},
		{fp12.Mul(both, xi), joined(xi, xi)},
		{fp12.Mul(joined(plain(2), plain(3)), joined(plain(5), plain(7))), joined(plain(10, 0, 21), plain(29))},
		// 1 + w + w·w and so on up to w^5, times w less 1, is w^6 less 1.
		{fp12.Mul(plain(1, 0, 1, 0, 1, 0, 1, 0, 1, 0, 1, 0), joined(plain(-1), one)), u},
		// (7 + 11·v + 13·v·v)·(2 + 3·v + 5·v·v) is 108 + 94·u and so on, and B times B that times v.
		{fp12.Mul(plain(2, 0, 3, 0, 5), plain(7, 0, 11, 0, 13)), plain(108, 94, 108, 65, 94)},
		{fp12.Mul(withW(2, 0, 3, 0, 5), withW(7, 0, 11, 0, 13)), plain(94, 94, 108, 94, 108, 65)},
		{fp12.Mul(withW(2, 0, 3, 0, 5), plain(7, 0, 11, 0, 13)), withW(108, 94, 108, 65, 94)},
	})
}

// P10.1: numbers without w multiply as fp6's; w carries one's A to B, and its B, times v, to A.
func TestProductsOfFewParts(t *testing.T) {
	all := some(2000, 117)
	for i, a := range all {
		b := all[len(all)-1-i]
		checkAll(t, []pair{
			{fp12.Mul(api.Fp12{A: a.A}, api.Fp12{A: b.B}), api.Fp12{A: fp6.Mul(a.A, b.B)}},
			{fp12.Mul(api.Fp12{A: a.A}, api.Fp12{B: b.B}), api.Fp12{B: fp6.Mul(a.A, b.B)}},
			{fp12.Mul(api.Fp12{B: a.A}, api.Fp12{A: b.B}), api.Fp12{B: fp6.Mul(a.A, b.B)}},
			{fp12.Mul(api.Fp12{B: a.A}, api.Fp12{B: b.B}), api.Fp12{A: fp6.V(fp6.Mul(a.A, b.B))}},
			{fp12.Mul(a, withW(1)), api.Fp12{A: fp6.V(a.B), B: fp6.Reduce(a.A)}},
			{fp12.Mul(withW(1), a), api.Fp12{A: fp6.V(a.B), B: fp6.Reduce(a.A)}},
		})
	}
}

// P10.1: a number times itself is the same, whether both have the same words or one of them other words for the same parts.
func TestSquares(t *testing.T) {
	for _, a := range samples(500, 118) {
		low := fp12.Reduce(a)
		square := fp12.Mul(a, a)
		checkAll(t, []pair{{fp12.Mul(a, low), square}, {fp12.Mul(low, a), square}, {fp12.Mul(low, low), square}})
	}
}

// P10.1: Inv of 0, of 1, u, v, w, 1 + u and 1 + w, and of opposites.
func TestSmallInverses(t *testing.T) {
	none, one, u, v, w, xi := plain(), plain(1), plain(0, 1), plain(0, 0, 1), withW(1), plain(1, 1)
	half := six(new(big.Int).Rsh(primePower(1, 1), 1))
	// The inverse of 1 + u is half of 1 - u, and so that of w, by w^5.
	small := api.Fp2{A: half, B: six(new(big.Int).Rsh(primePower(1, -1), 1))}
	byW := api.Fp12{B: api.Fp6{C: small}}
	// 1 - v times 1 + v + v·v is 1 - v·v·v: -u.
	notV := plain(0, 1, 0, 1, 0, 1)
	checkAll(t, []pair{
		{fp12.Inv(none), none},
		{fp12.Inv(one), one},
		{fp12.Inv(plain(-1)), plain(-1)},
		{fp12.Inv(plain(2)), api.Fp12{A: api.Fp6{A: api.Fp2{A: half}}}},
		{fp12.Inv(u), plain(0, -1)},
		{fp12.Inv(v), api.Fp12{A: api.Fp6{C: small}}},
		{fp12.Inv(xi), api.Fp12{A: api.Fp6{A: small}}},
		{fp12.Inv(w), byW},
		{fp12.Inv(byW), w},
		{fp12.Inv(fp12.Neg(w)), fp12.Neg(byW)},
		{fp12.Inv(withW(0, 0, 1)), api.Fp12{B: api.Fp6{B: small}}},
		{fp12.Inv(withW(0, 0, 0, 0, 1)), api.Fp12{B: api.Fp6{A: small}}},
		{fp12.Inv(plain(1, 0, -1)), notV},
		// 1 + w times 1 - w is 1 - v.
		{fp12.Inv(joined(one, one)), joined(notV, fp12.Neg(notV))},
		{fp12.Inv(joined(one, plain(-1))), joined(notV, notV)},
		{fp12.Inv(made(slots{near(1, 1), near(2, 0), near(9, 0), near(1, 0), near(3, 0), near(8, 0), near(1, 0), near(2, 0), near(3, 0), near(4, 0), near(5, 0), near(6, 0)})), one},
		{fp12.Inv(made(slots{near(1, 0), near(2, 0), near(9, 0), near(1, 0), near(3, 0), near(8, 0), near(9, 1), near(2, 0), near(3, 0), near(4, 0), near(5, 0), near(6, 0)})), byW},
	})
}

// P10.1: Inv of 0 is 0, whatever multiples of p its parts are.
func TestInverseOfNothing(t *testing.T) {
	multiples := []api.Fp{{}, near(1, 0), near(2, 0), near(9, 0)}
	random := rand.New(rand.NewSource(119))
	for choice := range 1 << count {
		var x slots
		for i := range x {
			x[i] = multiples[choice>>i%2*(1+random.Intn(3))]
		}
		if got := fp12.Inv(made(x)); got != (api.Fp12{}) {
			t.Errorf("%X, which is 0: inverse %X", x, got)
		}
	}
}

// P10.1: numbers without w have inverses without w, those of fp6.
func TestInversesWithoutW(t *testing.T) {
	for _, a := range samples(1000, 120) {
		checkAll(t, []pair{
			{fp12.Inv(api.Fp12{A: a.A}), api.Fp12{A: fp6.Inv(a.A)}},
			{fp12.Inv(api.Fp12{A: a.B}), api.Fp12{A: fp6.Inv(a.B)}},
			{fp12.Inv(api.Fp12{B: a.B}), api.Fp12{B: fp6.Inv(fp6.V(a.B))}},
		})
	}
}

// P10.1: numbers whose inverses have but some parts, and so such whose parts' products make up for one another.
func TestInversesOfFewParts(t *testing.T) {
	for _, few := range sparse() {
		a := fp12.Inv(few)
		checkOne(t, a)
		if got := fp12.Inv(a); got != fp12.Reduce(few) {
			t.Errorf("%X: inverse %X, and that one's %X", few, a, got)
		}
	}
}

// exponents are those of no word, of noughts, small ones with noughts at their tops and without, those about p, and drawn ones of up to nine words.
func exponents() [][]uint64 {
	all := [][]uint64{nil, {}, {0}, {0, 0, 0}, make([]uint64, 14), {1}, {1, 0}, {1, 0, 0, 0, 0, 0, 0, 0}, {2}, {3}, {5}, {15}, {16}, {17}, {5, 0, 0}, {0, 1}, {0, 0, 1}, {1 << 60}, {1 << 63}, {top}, {top, 0}, {top, top}, {1, 1}, ones(6), ones(7), append(make([]uint64, 6), 1)}
	for more := int64(-2); more <= 2; more++ {
		all = append(all, words(primePower(1, more), 6), words(primePower(1, more), 8))
	}
	random := rand.New(rand.NewSource(121))
	for n := 1; n <= 9; n++ {
		all = append(all, drawn(random, n), append(drawn(random, n), 0, 0))
	}
	return all
}

// P10.1: powers of numbers of all kinds, as they are reckoned bit by bit.
func TestPow(t *testing.T) {
	all := some(60, 122)
	for i, e := range exponents() {
		for j, a := range all {
			if (i+j)%30 == 0 {
				check(t, "Pow", fp12.Pow(a, e), widened(a).power(number(e)))
			}
		}
	}
}

// P10.1: powers of numbers with each edge in each part.
func TestPowOfEdges(t *testing.T) {
	e := []uint64{19}
	for _, a := range edgeNumbers() {
		check(t, "Pow", fp12.Pow(a, e), widened(a).power(number(e)))
	}
}

// P10.1: small exponents, all of them, with noughts at the top and without.
func TestSmallPowers(t *testing.T) {
	all := plain(1, 2, 3, 4, 5, 6, 7, 8, 9, 10, 11, 12)
	for _, a := range []api.Fp12{all, withW(-1), drawnNumber(rand.New(rand.NewSource(123)), parts())} {
		want := plain(1)
		for e := range uint64(70) {
			for _, words := range [][]uint64{{e}, {e, 0}, {e, 0, 0, 0, 0, 0, 0, 0, 0}} {
				if got := fp12.Pow(a, words); got != want {
					t.Errorf("%X's of %X: %X, want %X", a, words, got, want)
				}
			}
			want = widened(want).times(widened(a)).remains()
		}
	}
}

// P10.1: powers of u, v, w, 1 + u and 1 + w.
func TestPowersOfUnits(t *testing.T) {
	u, v, w, xi, both := plain(0, 1), plain(0, 0, 1), withW(1), plain(1, 1), joined(plain(1), plain(1))
	checkAll(t, []pair{
		{fp12.Pow(u, []uint64{2}), plain(-1)},
		{fp12.Pow(u, []uint64{3, 1}), plain(0, -1)},
		{fp12.Pow(v, []uint64{2}), plain(0, 0, 0, 0, 1)},
		{fp12.Pow(v, []uint64{3}), xi},
		{fp12.Pow(w, []uint64{1}), w},
		{fp12.Pow(w, []uint64{2}), v},
		{fp12.Pow(w, []uint64{3}), withW(0, 0, 1)},
		{fp12.Pow(w, []uint64{5}), withW(0, 0, 0, 0, 1)},
		{fp12.Pow(w, []uint64{6}), xi},
		{fp12.Pow(w, []uint64{12}), plain(0, 2)},
		{fp12.Pow(w, []uint64{24}), plain(-4)},
		{fp12.Pow(w, []uint64{48, 0}), plain(16)},
		{fp12.Pow(w, []uint64{49}), withW(16)},
		{fp12.Pow(xi, []uint64{8}), plain(16)},
		{fp12.Pow(both, []uint64{2}), joined(plain(1, 0, 1), plain(2))},
		{fp12.Pow(both, []uint64{3}), joined(plain(1, 0, 3), plain(3, 0, 1))},
		{fp12.Pow(both, []uint64{6}), joined(plain(2, 1, 15, 0, 15), plain(6, 0, 20, 0, 6))},
	})
}

// P10.1: a power of 0 is 1, of 0 too, whatever words there are for either; another one of 0 is 0, of 1 it is 1.
func TestPowEdges(t *testing.T) {
	zeros := []api.Fp12{{}, made(slots{near(1, 0)}), made(slots{11: near(1, 0)}), made(slots{near(1, 0), near(2, 0), near(3, 0), near(4, 0), near(5, 0), near(6, 0), near(7, 0), near(8, 0), near(9, 0), near(1, 0), {}, near(2, 0)})}
	ofOne := made(slots{near(3, 1), near(2, 0), {}, near(9, 0), 7: near(1, 0), 11: near(8, 0)})
	for _, e := range exponents() {
		want := api.Fp12{}
		if number(e).Sign() == 0 {
			want = plain(1)
			for _, a := range some(100, 124) {
				if got := fp12.Pow(a, e); got != want {
					t.Errorf("%X's of %X: %X", a, e, got)
				}
			}
		}
		for _, a := range zeros {
			if got := fp12.Pow(a, e); got != want {
				t.Errorf("%X's of %X: %X, want %X", a, e, got, want)
			}
		}
		if got := fp12.Pow(ofOne, e); got != plain(1) {
			t.Errorf("1's of %X: %X", e, got)
		}
	}
}

// P10.1: exponents of hundreds of words: the highest word counts, and noughts above it change nothing.
func TestPowOfLongExponents(t *testing.T) {
	random := rand.New(rand.NewSource(125))
	for _, n := range []int{73, 200} {
		a, e := drawnNumber(random, parts()), append(drawn(random, n-1), 1+random.Uint64()>>1)
		got := fp12.Pow(a, e)
		left := words(new(big.Int).Mod(number(e), primePower(12, -1)), 72)
		if must := fp12.Pow(a, left); got != must {
			t.Errorf("%d words: %X, want %X", n, got, must)
		}
		if short := fp12.Pow(a, e[:n-1]); short == got {
			t.Errorf("%d words: the highest one does not count", n)
		}
		if long := fp12.Pow(a, append(slices.Clone(e), make([]uint64, 20000)...)); long != got {
			t.Errorf("%d words: noughts at the top change the power", n)
		}
	}
}

// P10.1, P10.2: powers of sums are powers' products, those of products powers' powers, and powers of numbers' products the powers' products.
func TestPowersOfSums(t *testing.T) {
	random := rand.New(rand.NewSource(126))
	before := plain(3, 5)
	for _, a := range some(25, 127) {
		e, f := drawn(random, 1+random.Intn(4)), drawn(random, 1+random.Intn(4))
		ofE, ofF := fp12.Pow(a, e), fp12.Pow(a, f)
		sum, product := new(big.Int).Add(number(e), number(f)), new(big.Int).Mul(number(e), number(f))
		checkAll(t, []pair{
			{fp12.Pow(a, words(sum, 5)), fp12.Mul(ofE, ofF)},
			{fp12.Pow(a, words(product, 8)), fp12.Pow(ofE, f)},
			{fp12.Pow(fp12.Mul(a, before), e), fp12.Mul(ofE, fp12.Pow(before, e))},
			{fp12.Pow(fp12.Conj(a), e), fp12.Conj(ofE)},
			{fp12.Pow(fp12.Inv(a), e), powerOfInverse(ofE, e)},
		})
		before = a
	}
}

// powerOfInverse is the power of e of a number's inverse, told by the number's: its inverse, or, of no exponent, 1.
func powerOfInverse(power api.Fp12, e []uint64) api.Fp12 {
	if number(e).Sign() == 0 {
		return plain(1)
	}
	return fp12.Inv(power)
}

// P10.2: all numbers but 0 are as many as p^12 - 1: the power of so many is 1, that of one less the inverse, that of one more the number.
func TestPowersOfTheOrder(t *testing.T) {
	for _, a := range some(3, 128) {
		checkAll(t, []pair{
			{fp12.Pow(a, words(primePower(12, -1), 72)), oneOrNone(a)},
			{fp12.Pow(a, words(primePower(12, -2), 72)), fp12.Inv(a)},
			{fp12.Pow(a, words(primePower(12, 0), 72)), fp12.Reduce(a)},
		})
	}
}

// P10.2: a number's power of p^6 is its conjugate, and its power of p^6 + 1 so has no B.
func TestPowersThatAreConjugates(t *testing.T) {
	for _, a := range some(5, 129) {
		power, norm := fp12.Pow(a, words(primePower(6, 0), 36)), fp12.Pow(a, words(primePower(6, 1), 36))
		checkAll(t, []pair{{power, fp12.Conj(a)}, {norm, fp12.Mul(a, fp12.Conj(a))}})
		if norm.B != (api.Fp6{}) {
			t.Errorf("%X's power of p^6 + 1: %X", a, norm)
		}
	}
}

// P10.2: a number times its conjugate has no B: it is A's square less v times B's.
func TestNumbersTimesTheirConjugates(t *testing.T) {
	for _, a := range samples(2000, 130) {
		want := api.Fp12{A: fp6.Sub(fp6.Mul(a.A, a.A), fp6.V(fp6.Mul(a.B, a.B)))}
		got := fp12.Mul(a, fp12.Conj(a))
		if got != want || got.B != (api.Fp6{}) {
			t.Errorf("%X: %X, want %X", a, got, want)
		}
		if got := fp12.Mul(fp12.Conj(a), a); got != want {
			t.Errorf("%X, the conjugate first: %X, want %X", a, got, want)
		}
	}
}

// P10.2: orders and brackets do not matter, products are distributive; what is added is taken away; conjugates' sums and products are the conjugates.
func TestField(t *testing.T) {
	all := samples(1000, 131)
	random := rand.New(rand.NewSource(132))
	for range 3000 {
		a, b, c := all[random.Intn(len(all))], all[random.Intn(len(all))], all[random.Intn(len(all))]
		for law, sides := range map[string][2]api.Fp12{
			"sums' order":          {fp12.Add(a, b), fp12.Add(b, a)},
			"sums' brackets":       {fp12.Add(fp12.Add(a, b), c), fp12.Add(a, fp12.Add(b, c))},
			"products' order":      {fp12.Mul(a, b), fp12.Mul(b, a)},
			"their brackets":       {fp12.Mul(fp12.Mul(a, b), c), fp12.Mul(a, fp12.Mul(b, c))},
			"distribution":         {fp12.Mul(fp12.Add(a, b), c), fp12.Add(fp12.Mul(a, c), fp12.Mul(b, c))},
			"on the other side":    {fp12.Mul(a, fp12.Sub(b, c)), fp12.Sub(fp12.Mul(a, b), fp12.Mul(a, c))},
			"differences":          {fp12.Add(fp12.Sub(a, b), b), fp12.Reduce(a)},
			"sums less":            {fp12.Sub(fp12.Add(a, b), b), fp12.Reduce(a)},
			"differences' turn":    {fp12.Sub(a, b), fp12.Neg(fp12.Sub(b, a))},
			"opposites":            {fp12.Add(a, fp12.Neg(b)), fp12.Sub(a, b)},
			"opposites' own":       {fp12.Neg(fp12.Neg(a)), fp12.Reduce(a)},
			"opposite products":    {fp12.Mul(fp12.Neg(a), b), fp12.Neg(fp12.Mul(a, b))},
			"nothing added":        {fp12.Add(a, api.Fp12{}), fp12.Reduce(a)},
			"times nothing":        {fp12.Mul(a, api.Fp12{}), api.Fp12{}},
			"times one":            {fp12.Mul(a, plain(1)), fp12.Reduce(a)},
			"conjugates' sums":     {fp12.Add(fp12.Conj(a), fp12.Conj(b)), fp12.Conj(fp12.Add(a, b))},
			"conjugates' products": {fp12.Mul(fp12.Conj(a), fp12.Conj(b)), fp12.Conj(fp12.Mul(a, b))},
			"conjugates' own":      {fp12.Conj(fp12.Conj(a)), fp12.Reduce(a)},
		} {
			if sides[0] != sides[1] {
				t.Errorf("%s: %X, %X, %X: %X and %X", law, a, b, c, sides[0], sides[1])
			}
		}
	}
}

// P10.2: a number's product with its inverse is 1, but for 0; an inverse's inverse is the number; inverses of products are the inverses' products; a product is 0 just if a number is.
func TestInverses(t *testing.T) {
	before := plain(1)
	for _, a := range samples(1000, 133) {
		inverse, want := fp12.Inv(a), oneOrNone(a)
		checkAll(t, []pair{
			{fp12.Mul(a, inverse), want},
			{fp12.Mul(inverse, a), want},
			{fp12.Inv(inverse), fp12.Reduce(a)},
			{fp12.Inv(fp12.Neg(a)), fp12.Neg(inverse)},
			{fp12.Inv(fp12.Conj(a)), fp12.Conj(inverse)},
			{fp12.Inv(fp12.Mul(a, before)), fp12.Mul(inverse, fp12.Inv(before))},
		})
		if product := fp12.Mul(a, before); (product == api.Fp12{}) != (isZero(a) || isZero(before)) {
			t.Errorf("%X times %X: %X", a, before, product)
		}
		before = a
	}
}

// R4, R5: an exponent stays as it was, spare room too, and is not kept: changed afterwards, it changes no answer; asked again, Pow answers the same.
func TestExponentsAreNeitherChangedNorKept(t *testing.T) {
	random := rand.New(rand.NewSource(134))
	a := plain(3, 1, 4, 1, 5, 9, 2, 6, 5, 3, 5, 8)
	for n := range 16 {
		room := drawn(random, n+8)
		before := slices.Clone(room)
		first := fp12.Pow(a, room[:n])
		if !slices.Equal(room, before) {
			t.Errorf("%d words are changed", n)
		}
		for i := range room {
			room[i] ^= top
		}
		if again := fp12.Pow(a, slices.Clone(before[:n])); again != first {
			t.Errorf("%d words: %X, and then %X", n, first, again)
		}
	}
}

// R5: asked again, in whatever order, and with other words for the same parts, a call answers the same.
func TestAnswersHangOnTheNumberAlone(t *testing.T) {
	b := made(slots{{5, top, 7}, api.Fp(ones(size)), {1, 2, 3}, near(9, -5), {3: 8}, near(2, 7), {}, near(1, 0), {9}, near(4, 4), {2: top}, near(7, -7)})
	ask := func(a api.Fp12) [10]api.Fp12 {
		return [10]api.Fp12{fp12.Reduce(a), fp12.Add(a, b), fp12.Add(b, a), fp12.Sub(a, b), fp12.Sub(b, a), fp12.Neg(a), fp12.Mul(a, b), fp12.Mul(b, a), fp12.Inv(a), fp12.Add(fp12.Conj(a), fp12.Pow(a, []uint64{1 << 40}))}
	}
	all := some(120, 135)
	first := make([][10]api.Fp12, len(all))
	for i, a := range all {
		first[i] = ask(a)
	}
	for i, a := range slices.Backward(all) {
		if again := ask(a); again != first[i] {
			t.Errorf("%X: %X, and asked again %X", a, first[i], again)
		}
		other := taken(fp12.Reduce(a))
		for slot, part := range other {
			more := new(big.Int).Mul(prime(), big.NewInt(int64(8-slot%8)))
			other[slot] = six(more.Add(more, number(part[:])))
		}
		if again := ask(made(other)); again != first[i] {
			t.Errorf("%X: %X, and with multiples of p added %X", a, first[i], again)
		}
	}
}

// The chapter's section 'Examples', as it stands there.
func TestChapterExamples(t *testing.T) {
	k := api.Fp2{A: api.Fp{1}}
	one, v, w := api.Fp12{A: api.Fp6{A: k}}, api.Fp12{A: api.Fp6{B: k}}, api.Fp12{B: api.Fp6{A: k}}
	xi := api.Fp12{A: api.Fp6{A: api.Fp2{A: api.Fp{1}, B: api.Fp{1}}}}
	checkAll(t, []pair{
		{fp12.Mul(w, w), v},
		{fp12.Pow(w, []uint64{6}), xi},
		{fp12.Conj(fp12.Add(one, w)), fp12.Sub(one, w)},
		{fp12.Inv(api.Fp12{}), api.Fp12{}},
	})
}
