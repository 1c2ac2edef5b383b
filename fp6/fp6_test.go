package fp6_test

import (
	"math/big"
	"math/rand"
	"slices"
	"strings"
	"testing"

	"sigil/api"
	"sigil/fp2"
	"sigil/fp6"
)

const (
	// size is how many words a part has, count how many parts a number.
	size  = 6
	count = 6
)

// top is a word whose bits are all 1.
const top = 1<<64 - 1

// primeDigits are p, as chapter 4 writes it.
const primeDigits = "1A0111EA 397FE69A 4B1BA7B6 434BACD7 64774B84 F38512BF 6730D2A0 F6B0F624 1EABFFFE B153FFFF B9FEFFFF FFFFAAAB"

// prime is p.
func prime() *big.Int {
	p, _ := new(big.Int).SetString(strings.ReplaceAll(primeDigits, " ", ""), 16)
	return p
}

// number is what words mean: each times 2^64's power of its place, added.
func number(words []uint64) *big.Int {
	sum := new(big.Int)
	for _, word := range slices.Backward(words) {
		sum.Lsh(sum, 64)
		sum.Add(sum, new(big.Int).SetUint64(word))
	}
	return sum
}

// six are the six words of a number below 2^384.
func six(a *big.Int) api.Fp {
	var all api.Fp
	for i := range all {
		all[i] = new(big.Int).Rsh(a, uint(64*i)).Uint64()
	}
	return all
}

// near is so many times p, and a bit more or less.
func near(times, more int64) api.Fp {
	a := new(big.Int).Mul(prime(), big.NewInt(times))
	return six(a.Add(a, big.NewInt(more)))
}

// ones are six words whose bits are all 1.
func ones() api.Fp { return api.Fp(slices.Repeat([]uint64{top}, size)) }

// drawn are six words, many of which lie at the edges of a word.
func drawn(random *rand.Rand) api.Fp {
	var all api.Fp
	for i := range all {
		switch random.Intn(8) {
		case 0:
			all[i] = 0
		case 1:
			all[i] = top
		case 2:
			all[i] = 1 << random.Intn(64)
		case 3:
			all[i] = top - uint64(random.Intn(3))
		default:
			all[i] = random.Uint64()
		}
	}
	return all
}

// edges are the parts that the chapter's edges are made of: 0, 1 and p - 1, p and more, multiples of p, six words all 2^64 - 1.
func edges() []api.Fp {
	return []api.Fp{{}, {1}, near(1, -1), near(1, 0), near(1, 1), near(2, 0), near(9, -1), near(9, 0), ones()}
}

// parts are the edges, numbers of few bits, about half of p and about its multiples, and drawn ones, below p and not.
func parts() []api.Fp {
	all := append(edges(), api.Fp{2}, api.Fp{top}, api.Fp{0, 1}, api.Fp{5: 1 << 63}, api.Fp{0, 0, top, top}, near(1, -2), near(3, 1), near(8, -1))
	half := new(big.Int).Rsh(prime(), 1)
	all = append(all, six(half), six(half.Add(half, big.NewInt(1))))
	random := rand.New(rand.NewSource(90))
	for range 10 {
		all = append(all, drawn(random), six(new(big.Int).Rand(random, prime())))
	}
	return all
}

// slots are a number's six parts, those of A, B and C in order, and in each the one without u first.
type slots [count]api.Fp

// made is the number of six parts.
func made(x slots) api.Fp6 {
	return api.Fp6{A: api.Fp2{A: x[0], B: x[1]}, B: api.Fp2{A: x[2], B: x[3]}, C: api.Fp2{A: x[4], B: x[5]}}
}

// taken are a number's six parts.
func taken(a api.Fp6) slots { return slots{a.A.A, a.A.B, a.B.A, a.B.B, a.C.A, a.C.B} }

// drawnNumber is a number, each of whose parts is one of some, drawn.
func drawnNumber(random *rand.Rand, parts []api.Fp) api.Fp6 {
	var x slots
	for i := range x {
		x[i] = parts[random.Intn(len(parts))]
	}
	return made(x)
}

// edgeNumbers are those with one edge in one of the six parts, all other parts being 0, or 1, or drawn below p, or drawn; those with an edge in all six; and those with one edge in A, B or C, in both parts of it.
func edgeNumbers() []api.Fp6 {
	random := rand.New(rand.NewSource(91))
	var all []api.Fp6
	for _, edge := range edges() {
		for slot := range count {
			var none, units, below, any slots
			for i := range count {
				units[i], below[i], any[i] = api.Fp{1}, six(new(big.Int).Rand(random, prime())), drawn(random)
			}
			for _, x := range []slots{none, units, below, any} {
				x[slot] = edge
				all = append(all, made(x))
			}
		}
		both := api.Fp2{A: edge, B: edge}
		all = append(all, api.Fp6{A: both, B: both, C: both}, api.Fp6{A: both}, api.Fp6{B: both}, api.Fp6{C: both})
	}
	return all
}

// unit is one of the numbers 1, v and v·v, times a number without v.
func unit(place int, a api.Fp2) api.Fp6 {
	var x [3]api.Fp2
	x[place] = a
	return api.Fp6{A: x[0], B: x[1], C: x[2]}
}

// plain is a number of small parts, as slots has them; those below 0 are the opposites'.
func plain(small ...int64) api.Fp6 {
	var x slots
	for i, part := range small {
		x[i] = six(new(big.Int).Mod(big.NewInt(part), prime()))
	}
	return made(x)
}

// sparse are numbers that have but one or two of the three parts: for each choice of parts some small, some drawn, some with noughts written as multiples of p.
func sparse() []api.Fp6 {
	random := rand.New(rand.NewSource(92))
	nothing := api.Fp2{A: near(1, 0), B: near(2, 0)}
	var all []api.Fp6
	for choice := range 7 {
		for kind := range 6 {
			var x [3]api.Fp2
			for place := range x {
				switch {
				case choice>>place%2 == 1 && kind == 0:
					x[place] = api.Fp2{A: api.Fp{1}}
				case choice>>place%2 == 1 && kind == 1:
					x[place] = api.Fp2{B: api.Fp{1}}
				case choice>>place%2 == 1 && kind == 2:
					x[place] = api.Fp2{A: api.Fp{1}, B: api.Fp{1}}
				case choice>>place%2 == 1:
					x[place] = api.Fp2{A: drawn(random), B: six(new(big.Int).Rand(random, prime()))}
				case kind == 5:
					x[place] = nothing
				}
			}
			all = append(all, api.Fp6{A: x[0], B: x[1], C: x[2]})
		}
	}
	return all
}

// samples are all numbers above, and so many more, drawn.
func samples(more int, seed int64) []api.Fp6 {
	all, pool := append(edgeNumbers(), sparse()...), parts()
	random := rand.New(rand.NewSource(seed))
	for range more {
		all = append(all, drawnNumber(random, pool))
	}
	return all
}

// wide is a number whose six parts, in the order of slots, are any of the library's.
type wide [count]*big.Int

// widened is a number as the library's.
func widened(a api.Fp6) wide {
	var x wide
	for i, part := range taken(a) {
		x[i] = number(part[:])
	}
	return x
}

// each are two numbers' parts, put together one by one.
func (x wide) each(y wide, together func(sum, a, b *big.Int) *big.Int) wide {
	var all wide
	for i := range all {
		all[i] = together(new(big.Int), x[i], y[i])
	}
	return all
}

// plus is a sum, less a difference.
func (x wide) plus(y wide) wide { return x.each(y, (*big.Int).Add) }
func (x wide) less(y wide) wide { return x.each(y, (*big.Int).Sub) }

// times is the product of the polynomials in v and u: each part of one times each of the other; then -1 stands in the place of u·u, and 1 + u in that of v·v·v.
func (x wide) times(y wide) wide {
	// product[i][j] is what v^i·u^j has.
	var product [5][4]*big.Int
	for i := range product {
		for j := range product[i] {
			product[i][j] = new(big.Int)
		}
	}
	for i, a := range x {
		for j, b := range y {
			to := product[i/2+j/2][i%2+j%2]
			to.Add(to, new(big.Int).Mul(a, b))
		}
	}
	for i := 4; i >= 3; i-- {
		for j, part := range product[i][:3] {
			product[i-3][j].Add(product[i-3][j], part)
			product[i-3][j+1].Add(product[i-3][j+1], part)
		}
	}
	var left wide
	for i := range 3 {
		row := product[i]
		left[2*i] = new(big.Int).Sub(row[0], row[2])
		left[2*i+1] = new(big.Int).Sub(row[1], row[3])
	}
	return left
}

// remains is a number below p in all parts.
func (x wide) remains() api.Fp6 {
	var left slots
	for i, part := range x {
		left[i] = six(new(big.Int).Mod(part, prime()))
	}
	return made(left)
}

// check holds an answer to a number: its parts are that one's modulo p, and below p.
func check(t *testing.T, call string, got api.Fp6, want wide) {
	t.Helper()
	if must := want.remains(); got != must {
		t.Errorf("%s: %X, want %X", call, got, must)
	}
}

// pair are an answer, and what it must be.
type pair struct{ got, want api.Fp6 }

// checkAll holds answers to what they must be.
func checkAll(t *testing.T, all []pair) {
	t.Helper()
	for i, c := range all {
		if c.got != c.want {
			t.Errorf("%d: %X, want %X", i, c.got, c.want)
		}
	}
}

// isZero tells whether p divides all parts of a number.
func isZero(a api.Fp6) bool { return widened(a).remains() == api.Fp6{} }

// checkOne holds the calls of one number to the library's.
func checkOne(t *testing.T, a api.Fp6) {
	t.Helper()
	x := widened(a)
	check(t, "Reduce", fp6.Reduce(a), x)
	check(t, "Neg", fp6.Neg(a), widened(api.Fp6{}).less(x))
	check(t, "V", fp6.V(a), x.times(widened(plain(0, 0, 1))))
	check(t, "Mul with itself", fp6.Mul(a, a), x.times(x))
	want := plain(1)
	if isZero(a) {
		want = api.Fp6{}
	}
	inverse := fp6.Inv(a)
	check(t, "a number times its inverse", want, widened(inverse).times(x))
	if inverse != widened(inverse).remains() || isZero(inverse) != isZero(a) {
		t.Errorf("%X: inverse %X", a, inverse)
	}
}

// checkTwo holds the calls of two numbers to the library's.
func checkTwo(t *testing.T, a, b api.Fp6) {
	t.Helper()
	x, y := widened(a), widened(b)
	check(t, "Add", fp6.Add(a, b), x.plus(y))
	check(t, "Sub", fp6.Sub(a, b), x.less(y))
	check(t, "Mul", fp6.Mul(a, b), x.times(y))
	for _, k := range []api.Fp2{b.A, b.B, b.C} {
		check(t, "Scale", fp6.Scale(a, k), x.times(widened(unit(0, k))))
	}
}

// P9.1: the calls of one number, with each edge in each part.
func TestCallsOfOneNumber(t *testing.T) {
	for _, a := range samples(2000, 93) {
		checkOne(t, a)
	}
}

// P9.1: the calls of one number, at all numbers with parts 0, 1 or six words all 2^64 - 1, or p.
func TestCallsOfOneNumberWithAllChoicesOfParts(t *testing.T) {
	pool := []api.Fp{{}, {1}, near(1, 0), ones()}
	for choice := range 1 << (2 * count) {
		var x slots
		for i := range x {
			x[i] = pool[choice>>(2*i)%len(pool)]
		}
		checkOne(t, made(x))
	}
}

// P9.1: the calls of two numbers, with each edge in each part of one, and each edge in each part of the other.
func TestCallsOfTwoEdges(t *testing.T) {
	random := rand.New(rand.NewSource(94))
	pool := parts()
	for _, edge := range edges() {
		for _, other := range edges() {
			for slot := range count {
				for place := range count {
					x, y := taken(drawnNumber(random, pool)), taken(drawnNumber(random, pool))
					x[slot], y[place] = edge, other
					checkTwo(t, made(x), made(y))
				}
			}
		}
	}
}

// P9.1: edges and sparse numbers, each with another one, either way round, and with itself.
func TestCallsOfTwoNumbersOfFewParts(t *testing.T) {
	all := append(edgeNumbers(), sparse()...)
	random := rand.New(rand.NewSource(95))
	for _, a := range all {
		for range 10 {
			b := all[random.Intn(len(all))]
			checkTwo(t, a, b)
			checkTwo(t, b, a)
		}
		checkTwo(t, a, a)
	}
	for _, a := range sparse() {
		for _, b := range sparse() {
			checkTwo(t, a, b)
		}
	}
}

// P9.1: drawn numbers, below p and not.
func TestCallsOfTwoDrawnNumbers(t *testing.T) {
	random := rand.New(rand.NewSource(96))
	for range 5000 {
		var x, y slots
		for i := range count {
			x[i], y[i] = drawn(random), six(new(big.Int).Rand(random, prime()))
		}
		checkTwo(t, made(x), made(y))
		checkTwo(t, made(y), made(x))
	}
}

// P9.1: Scale by each edge in both parts of k, and in one of them, of numbers with each edge in each part.
func TestScaleByEdges(t *testing.T) {
	all := edgeNumbers()
	random := rand.New(rand.NewSource(97))
	for _, edge := range edges() {
		for _, other := range edges() {
			k := api.Fp2{A: edge, B: other}
			for range 50 {
				a := all[random.Intn(len(all))]
				check(t, "Scale", fp6.Scale(a, k), widened(a).times(widened(unit(0, k))))
			}
		}
	}
}

// P9.1: sums, differences and opposites of small numbers.
func TestSmallSums(t *testing.T) {
	none, all := plain(), plain(1, 2, 3, 4, 5, 6)
	checkAll(t, []pair{
		{fp6.Reduce(made(slots{near(1, 1), near(2, 0), near(9, 2), near(1, 0), near(3, 4), near(1, -1)})), plain(1, 0, 2, 0, 4, -1)},
		{fp6.Add(all, plain(10, 20, 30, 40, 50, 60)), plain(11, 22, 33, 44, 55, 66)},
		{fp6.Add(all, plain(-1, -2, -3, -4, -5, -6)), none},
		{fp6.Add(all, plain(-2, -2, -2, -2, -2, -2)), plain(-1, 0, 1, 2, 3, 4)},
		{fp6.Sub(all, plain(10, 20, 30, 40, 50, 60)), plain(-9, -18, -27, -36, -45, -54)},
		{fp6.Sub(all, all), none},
		{fp6.Sub(none, all), plain(-1, -2, -3, -4, -5, -6)},
		{fp6.Neg(all), plain(-1, -2, -3, -4, -5, -6)},
		{fp6.Neg(plain(-1, 0, -3)), plain(1, 0, 3)},
		{fp6.Neg(none), none},
	})
}

// P9.1: products of 0, 1, u, v, v·v, 1 + u and small numbers.
func TestSmallProducts(t *testing.T) {
	none, one, u, v, vv, xi := plain(), plain(1), plain(0, 1), plain(0, 0, 1), plain(0, 0, 0, 0, 1), plain(1, 1)
	all := plain(1, 2, 3, 4, 5, 6)
	checkAll(t, []pair{
		{fp6.Mul(none, all), none},
		{fp6.Mul(all, none), none},
		{fp6.Mul(one, all), all},
		{fp6.Mul(all, one), all},
		{fp6.Mul(u, u), plain(-1)},
		{fp6.Mul(u, all), plain(-2, 1, -4, 3, -6, 5)},
		{fp6.Mul(u, v), plain(0, 0, 0, 1)},
		{fp6.Mul(v, v), vv},
		{fp6.Mul(v, vv), xi},
		{fp6.Mul(vv, v), xi},
		{fp6.Mul(vv, vv), plain(0, 0, 1, 1)},
		{fp6.Mul(v, all), plain(-1, 11, 1, 2, 3, 4)},
		{fp6.Mul(vv, all), plain(-1, 7, -1, 11, 1, 2)},
		{fp6.Mul(xi, all), plain(-1, 3, -1, 7, -1, 11)},
		{fp6.Mul(xi, xi), plain(0, 2)},
		{fp6.Mul(plain(1, 0, 1), plain(1, 0, -1)), plain(1, 0, 0, 0, -1)},
		{fp6.Mul(plain(1, 0, 1, 0, 1), plain(-1, 0, 1)), plain(0, 1)},
		{fp6.Mul(plain(2, 0, 3, 0, 5), plain(7, 0, 11, 0, 13)), plain(108, 94, 108, 65, 94)},
		{fp6.Mul(plain(-1, -1, -1, -1, -1, -1), plain(-1, -1, -1, -1, -1, -1)), plain(-4, 6, -2, 6, 0, 6)},
	})
}

// P9.1: V and Scale of small numbers.
func TestSmallMultiples(t *testing.T) {
	none, one, v, vv, xi := plain(), plain(1), plain(0, 0, 1), plain(0, 0, 0, 0, 1), plain(1, 1)
	all := plain(1, 2, 3, 4, 5, 6)
	checkAll(t, []pair{
		{fp6.V(none), none},
		{fp6.V(one), v},
		{fp6.V(v), vv},
		{fp6.V(vv), xi},
		{fp6.V(xi), plain(0, 0, 1, 1)},
		{fp6.V(all), plain(-1, 11, 1, 2, 3, 4)},
		{fp6.V(fp6.V(fp6.V(all))), plain(-1, 3, -1, 7, -1, 11)},
		{fp6.Scale(all, api.Fp2{}), none},
		{fp6.Scale(all, api.Fp2{A: near(1, 0), B: near(2, 0)}), none},
		{fp6.Scale(all, api.Fp2{A: api.Fp{1}}), all},
		{fp6.Scale(all, api.Fp2{A: near(2, 1), B: near(9, 0)}), all},
		{fp6.Scale(all, api.Fp2{A: near(1, -1)}), fp6.Neg(all)},
		{fp6.Scale(all, api.Fp2{B: api.Fp{1}}), plain(-2, 1, -4, 3, -6, 5)},
		{fp6.Scale(all, xi.A), plain(-1, 3, -1, 7, -1, 11)},
		{fp6.Scale(none, xi.A), none},
		{fp6.Scale(v, api.Fp2{A: api.Fp{9}}), plain(0, 0, 9)},
	})
}

// P9.1: Inv of 0, of 1, u, v, v·v and 1 + u, and of opposites.
func TestSmallInverses(t *testing.T) {
	one, u, v, vv, xi := plain(1), plain(0, 1), plain(0, 0, 1), plain(0, 0, 0, 0, 1), plain(1, 1)
	half := fp2.Inv(api.Fp2{A: api.Fp{2}})
	// The inverse of 1 + u is half of 1 - u.
	small := fp2.Mul(half, api.Fp2{A: api.Fp{1}, B: near(1, -1)})
	checkAll(t, []pair{
		{fp6.Inv(plain()), plain()},
		{fp6.Inv(one), one},
		{fp6.Inv(plain(-1)), plain(-1)},
		{fp6.Inv(plain(2)), unit(0, half)},
		{fp6.Inv(u), plain(0, -1)},
		{fp6.Inv(v), unit(2, small)},
		{fp6.Inv(vv), unit(1, small)},
		{fp6.Inv(xi), unit(0, small)},
		{fp6.Inv(unit(2, small)), v},
		{fp6.Inv(unit(1, small)), vv},
		{fp6.Inv(fp6.Neg(v)), fp6.Neg(unit(2, small))},
		// 1 + v, v·v less v and 1: their product is 1 + v·v·v, 2 + u.
		{fp6.Inv(plain(1, 0, 1)), fp6.Scale(plain(1, 0, -1, 0, 1), fp2.Inv(api.Fp2{A: api.Fp{2}, B: api.Fp{1}}))},
		// v less 1 times 1 + v + v·v is v·v·v less 1: u.
		{fp6.Inv(plain(-1, 0, 1)), plain(0, -1, 0, -1, 0, -1)},
		{fp6.Inv(made(slots{near(1, 1), near(2, 0), near(9, 0), near(1, 0), near(3, 0), near(8, 0)})), one},
		{fp6.Inv(made(slots{near(1, 0), near(2, 0), near(9, 1), near(1, 0), near(3, 0), near(8, 0)})), unit(2, small)},
	})
}

// P9.1: Inv of 0 is 0, whatever multiples of p its parts are.
func TestInverseOfNothing(t *testing.T) {
	multiples := []api.Fp{{}, near(1, 0), near(2, 0), near(9, 0)}
	for choice := range 1 << (2 * count) {
		var x slots
		for i := range x {
			x[i] = multiples[choice>>(2*i)%len(multiples)]
		}
		if got := fp6.Inv(made(x)); got != (api.Fp6{}) {
			t.Errorf("%X, which is 0: inverse %X", x, got)
		}
	}
}

// P9.1: numbers without v have inverses without v, those of fp2.
func TestInversesWithoutV(t *testing.T) {
	for _, part := range parts() {
		for _, other := range parts() {
			a := api.Fp2{A: part, B: other}
			if got, want := fp6.Inv(unit(0, a)), unit(0, fp2.Inv(a)); got != want {
				t.Errorf("%X: %X, want %X", a, got, want)
			}
		}
	}
}

// P9.1: numbers whose inverses have but one or two parts, and so such whose parts' products make up for one another.
func TestInversesOfFewParts(t *testing.T) {
	for _, few := range sparse() {
		a := fp6.Inv(few)
		checkOne(t, a)
		if got := fp6.Inv(a); got != fp6.Reduce(few) {
			t.Errorf("%X: inverse %X, and that one's %X", few, a, got)
		}
	}
}

// P9.1: a number times its inverse is 1, and the inverse is the power of p^6 - 2, as all but 0 are as many as p^6 - 1.
func TestInversesArePowers(t *testing.T) {
	exponent := new(big.Int).Exp(prime(), big.NewInt(6), nil)
	exponent.Sub(exponent, big.NewInt(2))
	random := rand.New(rand.NewSource(98))
	pool := parts()
	all := append(sparse(), plain(), plain(1), plain(0, 1), plain(1, 1))
	for range 20 {
		all = append(all, drawnNumber(random, pool))
	}
	for _, a := range all {
		power := plain(1)
		for bit := exponent.BitLen() - 1; bit >= 0; bit-- {
			power = fp6.Mul(power, power)
			if exponent.Bit(bit) == 1 {
				power = fp6.Mul(power, a)
			}
		}
		if got := fp6.Inv(a); got != power {
			t.Errorf("%X: inverse %X, want %X", a, got, power)
		}
	}
}

// P9.1: V is Mul by v, v's powers go round, and Scale is Mul by a number without v.
func TestMultiplesAreProducts(t *testing.T) {
	v := plain(0, 0, 1)
	random := rand.New(rand.NewSource(99))
	pool := parts()
	for _, a := range samples(3000, 100) {
		k := api.Fp2{A: pool[random.Intn(len(pool))], B: pool[random.Intn(len(pool))]}
		checkAll(t, []pair{
			{fp6.V(a), fp6.Mul(a, v)},
			{fp6.V(a), fp6.Mul(v, a)},
			{fp6.V(fp6.V(a)), fp6.Mul(a, plain(0, 0, 0, 0, 1))},
			{fp6.V(fp6.V(fp6.V(a))), fp6.Scale(a, api.Fp2{A: api.Fp{1}, B: api.Fp{1}})},
			{fp6.Scale(a, k), fp6.Mul(a, unit(0, k))},
			{fp6.Scale(a, k), fp6.Mul(unit(0, k), a)},
			{fp6.Scale(fp6.V(a), k), fp6.V(fp6.Scale(a, k))},
		})
	}
}

// P9.1: a number times itself is the same, whether both have the same words or one of them other words for the same parts.
func TestSquares(t *testing.T) {
	for _, a := range samples(1000, 101) {
		low := fp6.Reduce(a)
		square := fp6.Mul(a, a)
		checkAll(t, []pair{{fp6.Mul(a, low), square}, {fp6.Mul(low, a), square}, {fp6.Mul(low, low), square}})
	}
}

// P9.2: orders and brackets do not matter, products are distributive; what is added is taken away.
func TestField(t *testing.T) {
	all := samples(1000, 102)
	random := rand.New(rand.NewSource(103))
	for range 4000 {
		a, b, c := all[random.Intn(len(all))], all[random.Intn(len(all))], all[random.Intn(len(all))]
		for law, sides := range map[string][2]api.Fp6{
			"sums' order":       {fp6.Add(a, b), fp6.Add(b, a)},
			"sums' brackets":    {fp6.Add(fp6.Add(a, b), c), fp6.Add(a, fp6.Add(b, c))},
			"products' order":   {fp6.Mul(a, b), fp6.Mul(b, a)},
			"their brackets":    {fp6.Mul(fp6.Mul(a, b), c), fp6.Mul(a, fp6.Mul(b, c))},
			"distribution":      {fp6.Mul(fp6.Add(a, b), c), fp6.Add(fp6.Mul(a, c), fp6.Mul(b, c))},
			"on the other side": {fp6.Mul(a, fp6.Sub(b, c)), fp6.Sub(fp6.Mul(a, b), fp6.Mul(a, c))},
			"differences":       {fp6.Add(fp6.Sub(a, b), b), fp6.Reduce(a)},
			"sums less":         {fp6.Sub(fp6.Add(a, b), b), fp6.Reduce(a)},
			"differences' turn": {fp6.Sub(a, b), fp6.Neg(fp6.Sub(b, a))},
			"opposites":         {fp6.Add(a, fp6.Neg(b)), fp6.Sub(a, b)},
			"opposites' own":    {fp6.Neg(fp6.Neg(a)), fp6.Reduce(a)},
			"opposite products": {fp6.Mul(fp6.Neg(a), b), fp6.Neg(fp6.Mul(a, b))},
			"nothing added":     {fp6.Add(a, api.Fp6{}), fp6.Reduce(a)},
			"times nothing":     {fp6.Mul(a, api.Fp6{}), api.Fp6{}},
			"times one":         {fp6.Mul(a, plain(1)), fp6.Reduce(a)},
		} {
			if sides[0] != sides[1] {
				t.Errorf("%s: %X, %X, %X: %X and %X", law, a, b, c, sides[0], sides[1])
			}
		}
	}
}

// P9.2: a number's product with its inverse is 1, but for 0; an inverse's inverse is the number; inverses of products are the inverses' products; a product is 0 just if a number is.
func TestInverses(t *testing.T) {
	before := plain(1)
	for _, a := range samples(2000, 104) {
		inverse, want := fp6.Inv(a), plain(1)
		if isZero(a) {
			want = api.Fp6{}
		}
		checkAll(t, []pair{
			{fp6.Mul(a, inverse), want},
			{fp6.Mul(inverse, a), want},
			{fp6.Inv(inverse), fp6.Reduce(a)},
			{fp6.Inv(fp6.Neg(a)), fp6.Neg(inverse)},
			{fp6.Inv(fp6.Mul(a, before)), fp6.Mul(inverse, fp6.Inv(before))},
		})
		if product := fp6.Mul(a, before); (product == api.Fp6{}) != (isZero(a) || isZero(before)) {
			t.Errorf("%X times %X: %X", a, before, product)
		}
		before = a
	}
}

// R5: asked again, in whatever order, and with other words for the same parts, a call answers the same.
func TestAnswersHangOnTheNumberAlone(t *testing.T) {
	b := made(slots{{5, top, 7}, ones(), {1, 2, 3}, near(9, -5), {3: 8}, near(2, 7)})
	ask := func(a api.Fp6) [11]api.Fp6 {
		return [11]api.Fp6{fp6.Reduce(a), fp6.Add(a, b), fp6.Add(b, a), fp6.Sub(a, b), fp6.Sub(b, a), fp6.Neg(a), fp6.Mul(a, b), fp6.Mul(b, a), fp6.Inv(a), fp6.V(a), fp6.Add(fp6.Scale(a, b.B), fp6.Scale(b, a.C))}
	}
	all := samples(300, 105)
	first := make([][11]api.Fp6, len(all))
	for i, a := range all {
		first[i] = ask(a)
	}
	for i, a := range slices.Backward(all) {
		if again := ask(a); again != first[i] {
			t.Errorf("%X: %X, and asked again %X", a, first[i], again)
		}
		other := taken(fp6.Reduce(a))
		for slot, part := range other {
			more := new(big.Int).Mul(prime(), big.NewInt(int64(8-slot)))
			other[slot] = six(more.Add(more, number(part[:])))
		}
		if again := ask(made(other)); again != first[i] {
			t.Errorf("%X: %X, and with multiples of p added %X", a, first[i], again)
		}
	}
}

// The chapter's section 'Examples', as it stands there.
func TestChapterExamples(t *testing.T) {
	one := api.Fp2{A: api.Fp{1}}
	v, vv := api.Fp6{B: one}, api.Fp6{C: one}
	xi := api.Fp6{A: api.Fp2{A: api.Fp{1}, B: api.Fp{1}}}
	checkAll(t, []pair{
		{fp6.Mul(v, v), vv},
		{fp6.Mul(v, vv), xi},
		{fp6.V(vv), xi},
		{fp6.Inv(api.Fp6{}), api.Fp6{}},
	})
}
