package g2_test

import (
	"math/big"
	"math/rand"
	"slices"
	"strings"
	"sync"
	"testing"

	"sigil/api"
	"sigil/g2"
)

// size is how many words a number has.
const size = 6

// top is a word whose bits are all 1.
const top = 1<<64 - 1

const (
	// primeDigits are p, as chapter 4 writes it.
	primeDigits = "1A0111EA 397FE69A 4B1BA7B6 434BACD7 64774B84 F38512BF 6730D2A0 F6B0F624 1EABFFFE B153FFFF B9FEFFFF FFFFAAAB"
	// orderDigits are r, as chapter 6 writes it.
	orderDigits = "73EDA753 299D7D48 3339D808 09A1D805 53BDA402 FFFE5BFE FFFFFFFF 00000001"
	// baseXA to baseYB are the base's, as the chapter writes them.
	baseXA = "024AA2B2 F08F0A91 26080527 2DC51051 C6E47AD4 FA403B02 B4510B64 7AE3D177 0BAC0326 A805BBEF D48056C8 C121BDB8"
	baseXB = "13E02B60 52719F60 7DACD3A0 88274F65 596BD0D0 9920B61A B5DA61BB DC7F5049 334CF112 13945D57 E5AC7D05 5D042B7E"
	baseYA = "0CE5D527 727D6E11 8CC9CDC6 DA2E351A ADFD9BAA 8CBDD3A7 6D429A69 5160D12C 923AC9CC 3BACA289 E1935486 08B82801"
	baseYB = "0606C4A0 2EA734CC 32ACD2B0 2BC28B99 CB3E287E 85A763AF 267492AB 572E99AB 3F370D27 5CEC1DA1 AAA9075F F05F79BE"
	// lowX and lowY are the base curve's base, as chapter 12 writes it.
	lowX = "17F1D3A7 3197D794 2695638C 4FA9AC0F C3688C4F 9774B905 A14E3A3F 171BAC58 6C55E83F F97A1AEF FB3AF00A DB22C6BB"
	lowY = "08B3F481 E3AAA0F1 A09E30ED 741D8AE4 FCF5E095 D5D00AF6 00DB18CB 2C04B3ED D03CC744 A2888AE4 0CAA2329 46C5E7E1"
)

// written is the number of hexadecimal digits.
func written(digits string) *big.Int {
	a, _ := new(big.Int).SetString(strings.ReplaceAll(digits, " ", ""), 16)
	return a
}

// prime is p.
var prime = sync.OnceValue(func() *big.Int { return written(primeDigits) })

// order is r.
var order = sync.OnceValue(func() *big.Int { return written(orderDigits) })

// number is what words mean: each times 2^64's power of its place, added.
func number(words []uint64) *big.Int {
	sum := new(big.Int)
	for _, word := range slices.Backward(words) {
		sum.Lsh(sum, 64)
		sum.Add(sum, new(big.Int).SetUint64(word))
	}
	return sum
}

// words are n words of a number that they hold.
func words(a *big.Int, n int) []uint64 {
	all := make([]uint64, n)
	for i := range all {
		all[i] = new(big.Int).Rsh(a, uint(64*i)).Uint64()
	}
	return all
}

// six are the six words of a number below 2^384.
func six(a *big.Int) api.Fp { return api.Fp(words(a, size)) }

// near is so many times p, and a bit more or less.
func near(times, more int64) api.Fp {
	a := new(big.Int).Mul(prime(), big.NewInt(times))
	return six(a.Add(a, big.NewInt(more)))
}

// ones are n words whose bits are all 1.
func ones(n int) []uint64 { return slices.Repeat([]uint64{top}, n) }

// drawn are n words, many of which lie at the edges of a word.
func drawn(random *rand.Rand, n int) []uint64 {
	all := make([]uint64, n)
	for i := range all {
		switch random.Intn(8) {
		case 0:
			all[i] = 0
		case 1:
			all[i] = top
		case 2:
			all[i] = 1 << random.Intn(64)
		default:
			all[i] = random.Uint64()
		}
	}
	return all
}

// edges are the parts that the chapter's edges are made of: 0, 1, 2 and p - 1, p and more, multiples of p, six words all 2^64 - 1.
func edges() []api.Fp {
	return []api.Fp{{}, {1}, {2}, near(1, -2), near(1, -1), near(1, 0), near(1, 1), near(1, 2), near(2, 0), near(9, -1), near(9, 0), near(9, 2), api.Fp(ones(size))}
}

// more is a number with so many times p on it, as often as six words hold it.
func more(a api.Fp, times int64) api.Fp {
	sum := new(big.Int).Mul(prime(), big.NewInt(times))
	sum.Add(sum, number(a[:]))
	if sum.BitLen() > 64*size {
		return more(a, times-1)
	}
	return six(sum)
}

// parts are the places of a point's four numbers: X.A, X.B, Y.A, Y.B.
func parts(p *api.G2) [4]*api.Fp { return [4]*api.Fp{&p.X.A, &p.X.B, &p.Y.A, &p.Y.B} }

// of is the point of four parts.
func of(xA, xB, yA, yB api.Fp) api.G2 {
	return api.G2{X: api.Fp2{A: xA, B: xB}, Y: api.Fp2{A: yA, B: yB}}
}

// other is a point with other words for its numbers: so many times p on each part, a part less, begun with times.
func other(p api.G2, times int64) api.G2 {
	for i, part := range parts(&p) {
		*part = more(*part, (times+3*int64(i))%10)
	}
	return p
}

// pair is A + B·u of the library's numbers, below p.
type pair struct{ a, b *big.Int }

// left is what is left of a number modulo p.
func left(a *big.Int) *big.Int { return new(big.Int).Mod(a, prime()) }

// whole is the pair of small numbers.
func whole(a, b int64) pair { return pair{left(big.NewInt(a)), left(big.NewInt(b))} }

// paired is a number as the library's.
func paired(c api.Fp2) pair { return pair{left(number(c.A[:])), left(number(c.B[:]))} }

// number is the number that is meant.
func (c pair) number() api.Fp2 { return api.Fp2{A: six(c.a), B: six(c.b)} }

// isZero tells whether a number is 0.
func (c pair) isZero() bool { return c.a.Sign() == 0 && c.b.Sign() == 0 }

// plus is a sum.
func (c pair) plus(d pair) pair {
	return pair{left(new(big.Int).Add(c.a, d.a)), left(new(big.Int).Add(c.b, d.b))}
}

// minus is a difference.
func (c pair) minus(d pair) pair {
	return pair{left(new(big.Int).Sub(c.a, d.a)), left(new(big.Int).Sub(c.b, d.b))}
}

// times is a product, of four.
func (c pair) times(d pair) pair {
	product := func(e, f *big.Int) *big.Int { return new(big.Int).Mul(e, f) }
	a := product(c.a, d.a)
	b := product(c.a, d.b)
	return pair{left(a.Sub(a, product(c.b, d.b))), left(b.Add(b, product(c.b, d.a)))}
}

// inverse is the inverse of a number that is not 0.
func (c pair) inverse() pair {
	norm := new(big.Int).Mul(c.a, c.a)
	norm.Add(norm, new(big.Int).Mul(c.b, c.b))
	norm.ModInverse(left(norm), prime())
	return pair{left(norm), whole(0, 0).b}.times(pair{c.a, left(new(big.Int).Neg(c.b))})
}

// root is a square root, if there is one, of a number with a B that is not 0.
func (c pair) root() (pair, bool) {
	norm := new(big.Int).Mul(c.a, c.a)
	norm.Add(norm, new(big.Int).Mul(c.b, c.b))
	norm.ModSqrt(left(norm), prime())
	if norm.Sign() == 0 || left(new(big.Int).Mul(norm, norm)).Cmp(left(new(big.Int).Add(new(big.Int).Mul(c.a, c.a), new(big.Int).Mul(c.b, c.b)))) != 0 {
		return pair{}, false
	}
	half := new(big.Int).ModInverse(big.NewInt(2), prime())
	for _, sign := range []int64{1, -1} {
		square := new(big.Int).Mul(big.NewInt(sign), norm)
		square = left(square.Mul(square.Add(square, c.a), half))
		if a := new(big.Int).ModSqrt(square, prime()); a != nil && a.Sign() != 0 {
			b := new(big.Int).ModInverse(left(new(big.Int).Add(a, a)), prime())
			return pair{a, left(b.Mul(b, c.b))}, true
		}
	}
	return pair{}, false
}

// place is a point of the library's numbers; without numbers it is infinity.
type place struct{ x, y pair }

// isInfinity tells whether a point is the one at infinity.
func (a place) isInfinity() bool { return a.x.a == nil }

// placed is a point as the library's numbers.
func placed(p api.G2) place {
	if p.Inf {
		return place{}
	}
	return place{paired(p.X), paired(p.Y)}
}

// point is the point that is to be answered for it.
func (a place) point() api.G2 {
	if a.isInfinity() {
		return api.G2{Inf: true}
	}
	return api.G2{X: a.x.number(), Y: a.y.number()}
}

// right is the right side of the chapter's equation.
func right(x pair) pair { return x.times(x).times(x).plus(whole(4, 4)) }

// isOn is what the chapter's equation says.
func (a place) isOn() bool {
	return a.isInfinity() || right(a.x).minus(a.y.times(a.y)).isZero()
}

// slope is P13.2's, and whether there is one.
func (a place) slope(b place) (pair, bool) {
	above, below := b.y.minus(a.y), b.x.minus(a.x)
	if below.isZero() {
		if !above.isZero() || a.y.isZero() {
			return pair{}, false
		}
		above, below = whole(3, 0).times(a.x).times(a.x), a.y.plus(a.y)
	}
	return above.times(below.inverse()), true
}

// plus is P13.2's sum.
func (a place) plus(b place) place {
	if a.isInfinity() {
		return b
	}
	if b.isInfinity() {
		return a
	}
	slope, is := a.slope(b)
	if !is {
		return place{}
	}
	x := slope.times(slope).minus(a.x).minus(b.x)
	return place{x, slope.times(a.x.minus(x)).minus(a.y)}
}

// times is a point so many times added, bit by bit.
func (a place) times(k *big.Int) place {
	var sum place
	for bit := k.BitLen() - 1; bit >= 0; bit-- {
		sum = sum.plus(sum)
		if k.Bit(bit) == 1 {
			sum = sum.plus(a)
		}
	}
	return sum
}

// base is the chapter's.
func base() place {
	return place{pair{written(baseXA), written(baseXB)}, pair{written(baseYA), written(baseYB)}}
}

// lifted is the first point of the curve with this A of X, and the B of X at least b.
func lifted(a, b *big.Int) place {
	x := pair{left(a), left(b)}
	for {
		if y, is := right(x).root(); is {
			return place{x, y}
		}
		x = x.plus(whole(0, 1))
	}
}

// points is how many points the curve has: r times the ninth part of the polynomial of chapter 14's x, which is below 0.
func points() *big.Int {
	root := new(big.Int).Neg(written("D2010000 00010000"))
	sum := new(big.Int)
	for _, factor := range []int64{1, -4, 5, 0, -4, 6, -4, -4, 13} {
		sum.Mul(sum, root)
		sum.Add(sum, big.NewInt(factor))
	}
	return sum.Mul(sum.Div(sum, big.NewInt(9)), order())
}

// ofOrder is a point whose order is that small prime, whose square goes into the number of points.
func ofOrder(n int64) place {
	for x := int64(1); ; x++ {
		p := lifted(big.NewInt(x), big.NewInt(x)).times(new(big.Int).Div(points(), big.NewInt(n*n)))
		for next := p.times(big.NewInt(n)); !next.isInfinity(); next = p.times(big.NewInt(n)) {
			p = next
		}
		if !p.isInfinity() {
			return p
		}
	}
}

// small are points of orders 13 and 23.
var small = sync.OnceValue(func() []place { return []place{ofOrder(13), ofOrder(23)} })

// beta is a number whose cube is 1, but not itself.
var beta = sync.OnceValue(func() *big.Int {
	third := new(big.Int).Div(prime(), big.NewInt(3))
	return new(big.Int).Exp(big.NewInt(2), third, prime())
})

// turned is the other point of the curve with the same Y that beta leads to.
func (a place) turned() place { return place{a.x.times(pair{beta(), whole(0, 0).b}), a.y} }

// onCurve are points of the curve, their numbers below p: multiples of the base, those of orders 13 and 23, those with the same Y, with the same A or the same B of X, and drawn ones of all orders.
var onCurve = sync.OnceValue(func() []api.G2 {
	all := []api.G2{{Inf: true}}
	for _, p := range small() {
		all = append(all, p.point(), p.times(big.NewInt(7)).point())
	}
	for _, k := range []int64{1, 2, 3, 4, 5, 100} {
		all = append(all, base().times(big.NewInt(k)).point())
	}
	all = append(all, base().times(new(big.Int).Sub(order(), big.NewInt(1))).point())
	all = append(all, base().turned().point(), base().turned().turned().point())
	random := rand.New(rand.NewSource(40))
	zero, one := new(big.Int), big.NewInt(1)
	first := lifted(new(big.Int).Rand(random, prime()), zero)
	second := lifted(first.x.a, new(big.Int).Add(first.x.b, one))
	all = append(all, first.point(), second.point(), lifted(second.x.a, new(big.Int).Add(second.x.b, one)).point())
	for a := second.x.plus(whole(1, 0)); ; a = a.plus(whole(1, 0)) {
		if p := lifted(a.a, a.b); p.x.b.Cmp(second.x.b) == 0 {
			all = append(all, p.point())
			break
		}
	}
	all = append(all, lifted(zero, one).point())
	for range 4 {
		all = append(all, lifted(new(big.Int).Rand(random, prime()), new(big.Int).Rand(random, prime())).point())
	}
	return all
})

// low are points of the base curve, written without u.
func low() []api.G2 {
	x, y := six(written(lowX)), six(written(lowY))
	opposite := six(new(big.Int).Sub(prime(), written(lowY)))
	return []api.G2{of(x, api.Fp{}, y, api.Fp{}), of(x, near(1, 0), y, near(9, 0)), of(x, api.Fp{}, opposite, api.Fp{}), of(api.Fp{}, api.Fp{}, api.Fp{2}, api.Fp{}), of(near(1, 0), near(2, 0), near(1, -2), near(1, 0))}
}

// offCurve are points that are not on it, of any words: all edges in all two of the four parts, points of the curve with a part of another, without one, or with A and B, or X and Y, changed for each other, points of the base curve, and drawn ones.
var offCurve = sync.OnceValue(func() []api.G2 {
	all := low()
	for _, a := range edges() {
		for _, b := range edges() {
			all = append(all, of(a, b, api.Fp{}, api.Fp{}), of(api.Fp{}, api.Fp{}, a, b), of(a, api.Fp{}, b, api.Fp{}), of(api.Fp{}, a, api.Fp{}, b), of(a, api.Fp{}, api.Fp{}, b), of(api.Fp{}, a, b, api.Fp{}), of(a, b, b, a))
		}
	}
	for _, p := range onCurve() {
		if p.Inf {
			continue
		}
		all = append(all, api.G2{X: p.X}, api.G2{Y: p.Y}, api.G2{X: p.Y, Y: p.X}, of(p.X.B, p.X.A, p.Y.A, p.Y.B), of(p.X.A, p.X.B, p.Y.B, p.Y.A), of(p.X.B, p.X.A, p.Y.B, p.Y.A))
		for i := range 4 {
			for _, edge := range edges() {
				q := p
				*parts(&q)[i] = edge
				all = append(all, q)
			}
			q := p
			parts(&q)[i][0] ^= 1
			all = append(all, q)
		}
	}
	random := rand.New(rand.NewSource(41))
	for range 20 {
		all = append(all, of(api.Fp(drawn(random, size)), api.Fp(drawn(random, size)), api.Fp(drawn(random, size)), api.Fp(drawn(random, size))))
	}
	return slices.DeleteFunc(all, func(p api.G2) bool { return placed(p).isOn() })
})

// variants are the points of the curve with other words, and infinity with any numbers.
var variants = sync.OnceValue(func() []api.G2 {
	var all []api.G2
	for i, p := range onCurve() {
		all = append(all, p, other(p, int64(i)))
		for j := range 4 {
			q := p
			*parts(&q)[j] = more(*parts(&q)[j], int64(1+i%9))
			all = append(all, q)
		}
	}
	for i, x := range edges() {
		for j := range 4 {
			p := api.G2{Inf: true}
			*parts(&p)[j] = x
			all = append(all, p)
		}
		all = append(all, api.G2{X: api.Fp2{A: x, B: x}, Y: api.Fp2{A: x, B: edges()[i/2]}, Inf: true})
	}
	p := base().point()
	return append(all, api.G2{X: p.X, Y: p.Y, Inf: true}, api.G2{X: p.X, Inf: true}, api.G2{X: p.X, Y: p.X, Inf: true})
})

// samples are points on the curve and off it, with words below p and not, and infinity with any numbers.
func samples() []api.G2 { return append(slices.Clone(variants()), offCurve()...) }

// check holds an answer to what it must be.
func check(t *testing.T, call string, got api.G2, want place) {
	t.Helper()
	if must := want.point(); got != must {
		t.Errorf("%s: %v, want %v", call, got, must)
	}
}

// checkMul holds a multiple to what it must be.
func checkMul(t *testing.T, k []uint64, p api.G2, want place) {
	t.Helper()
	got, e := g2.Mul(k, p)
	if e != api.OK || got != want.point() {
		t.Errorf("%v times %v: %v, %v, want %v", k, p, got, e, want.point())
	}
}

// checkAdd holds a sum, either way round, to the slope as the library reckons it.
func checkAdd(t *testing.T, p, q api.G2) {
	t.Helper()
	check(t, "Add", g2.Add(p, q), placed(p).plus(placed(q)))
	check(t, "Add, the other way", g2.Add(q, p), placed(q).plus(placed(p)))
}

// P13.1: On is what the equation says, at all samples; infinity is on the curve, whatever X and Y are; Reduce and Neg are below p, on the curve or not.
func TestCallsOfOnePoint(t *testing.T) {
	for _, p := range samples() {
		a := placed(p)
		if got := g2.On(p); got != a.isOn() {
			t.Errorf("On of %v: %v", p, got)
		}
		check(t, "Reduce", g2.Reduce(p), a)
		opposite := a
		if !a.isInfinity() {
			opposite.y = whole(0, 0).minus(a.y)
		}
		check(t, "Neg", g2.Neg(p), opposite)
		check(t, "Neg of Neg", g2.Neg(g2.Neg(p)), a)
	}
}

// P13.1: some points of the curve, and what is beside them.
func TestOn(t *testing.T) {
	base := base().point()
	for _, p := range append([]api.G2{base, other(base, 1), other(base, 8), {Inf: true}, {X: base.X, Inf: true}, {Y: api.Fp2{A: near(1, 0)}, Inf: true}, small()[0].point(), small()[1].point()}, variants()...) {
		if !g2.On(p) {
			t.Errorf("%v is not on the curve", p)
		}
	}
	for _, p := range append([]api.G2{{}, of(near(1, 0), near(2, 0), near(3, 0), near(9, 0)), {X: base.X}, {Y: base.Y}, {X: base.Y, Y: base.X}, of(base.X.A, base.X.B, base.Y.A, more(api.Fp{1}, 1))}, low()...) {
		if g2.On(p) {
			t.Errorf("%v is on the curve", p)
		}
	}
}

// P13.2: sums of points of the curve and infinities two by two, with all words, and of all samples with drawn ones and with themselves, against the slope as the library reckons it.
func TestAdd(t *testing.T) {
	for i, p := range variants() {
		for j := i % 3; j <= i; j += 3 {
			checkAdd(t, p, variants()[j])
		}
	}
	all := samples()
	random := rand.New(rand.NewSource(42))
	for _, p := range all {
		checkAdd(t, p, p)
		for range 6 {
			checkAdd(t, p, all[random.Intn(len(all))])
		}
	}
}

// P13.2: with infinity, whatever numbers it has, in either place or in both.
func TestAddOfInfinity(t *testing.T) {
	for _, none := range variants() {
		if !none.Inf {
			continue
		}
		for _, p := range variants() {
			check(t, "infinity and a point", g2.Add(none, p), placed(p))
			check(t, "a point and infinity", g2.Add(p, none), placed(p))
		}
		for i := range 20 {
			p := offCurve()[i*len(offCurve())/20]
			check(t, "infinity and a point off the curve", g2.Add(none, p), placed(p))
			check(t, "a point off the curve and infinity", g2.Add(p, none), placed(p))
		}
	}
}

// P13.2: X that are one: the same Y is doubled, though its words be others; 0, or another Y, is infinity, on the curve or off it.
func TestAddOfOneX(t *testing.T) {
	all := append(slices.Clone(onCurve()[1:]), low()...)
	for i := range 150 {
		all = append(all, offCurve()[i*len(offCurve())/150])
	}
	for i, p := range all {
		q := g2.Reduce(p)
		double := placed(p).plus(placed(p))
		for _, same := range []api.G2{q, other(q, 1), other(q, int64(i)), {X: other(q, 5).X, Y: q.Y}, {X: q.X, Y: other(q, 7).Y}} {
			check(t, "twice", g2.Add(q, same), double)
			check(t, "twice, the other way", g2.Add(same, p), double)
			check(t, "opposites", g2.Add(p, g2.Neg(same)), place{})
			check(t, "opposites, the other way", g2.Add(g2.Neg(p), same), place{})
			check(t, "the same X and Y 0", g2.Add(api.G2{X: same.X}, api.G2{X: q.X, Y: api.Fp2{A: near(1, 0), B: near(int64(i%10), 0)}}), place{})
			for _, step := range []pair{whole(1, 0), whole(0, 1), whole(-1, 0), whole(0, -1), whole(5, 7)} {
				up := same
				up.Y = paired(same.Y).plus(step).number()
				check(t, "the same X and another Y", g2.Add(p, up), place{})
				check(t, "the same X and another Y, the other way", g2.Add(up, p), place{})
			}
		}
	}
}

// P13.2: X and Y that are one in some parts, and differ in the others, all sixteen ways; the parts that are one have other words.
func TestAddOfOneParts(t *testing.T) {
	random := rand.New(rand.NewSource(43))
	all := append(slices.Clone(onCurve()[1:]), offCurve()[:60]...)
	for range 20 {
		all = append(all, offCurve()[random.Intn(len(offCurve()))])
	}
	for i, p := range all {
		for differing := range 16 {
			q := other(g2.Reduce(p), int64(i))
			for j, part := range parts(&q) {
				if differing>>j%2 == 1 {
					*part = six(left(new(big.Int).Add(number(part[:]), big.NewInt(int64(1+j*random.Intn(100))))))
				}
			}
			checkAdd(t, p, q)
		}
	}
}

// P13.2: a point whose Y is 0 in one part only has a double; with both 0 it has none.
func TestAddOfHalfZeroY(t *testing.T) {
	for i, y := range edges() {
		for _, zero := range []api.Fp{{}, near(1, 0), near(9, 0)} {
			for _, p := range []api.G2{of(y, api.Fp{3}, zero, y), of(api.Fp{3}, y, y, zero), of(y, y, zero, edges()[i/2])} {
				checkAdd(t, p, p)
				checkAdd(t, p, g2.Reduce(p))
			}
			p := of(y, api.Fp{3}, zero, near(2, 0))
			check(t, "Y 0 twice", g2.Add(p, p), place{})
			check(t, "Y 0 twice, with other words", g2.Add(p, g2.Reduce(p)), place{})
		}
	}
}

// P13.2: sums off the curve whose numbers are known: (0, 1) twice has the slope 0, (2, u) twice the slope -6·u, (1, 2·u) and (3, 8·u) have the slope 3·u, (0, 0) and (1, 1 + u) the slope 1 + u.
func TestKnownSums(t *testing.T) {
	for i, c := range [][3]place{
		{{whole(0, 0), whole(1, 0)}, {whole(0, 0), whole(1, 0)}, {whole(0, 0), whole(-1, 0)}},
		{{whole(0, 0), whole(0, 1)}, {whole(0, 0), whole(0, 1)}, {whole(0, 0), whole(0, -1)}},
		{{whole(2, 0), whole(1, 0)}, {whole(2, 0), whole(1, 0)}, {whole(32, 0), whole(-181, 0)}},
		{{whole(2, 0), whole(0, 1)}, {whole(2, 0), whole(0, 1)}, {whole(-40, 0), whole(0, -253)}},
		{{whole(1, 0), whole(0, 2)}, {whole(3, 0), whole(0, 8)}, {whole(-13, 0), whole(0, 40)}},
		{{whole(1, 0), whole(0, 0)}, {whole(0, 1), whole(0, 0)}, {whole(-1, -1), whole(0, 0)}},
		{{whole(0, 0), whole(0, 0)}, {whole(1, 0), whole(1, 1)}, {whole(-1, 2), whole(3, -1)}},
		{{whole(0, 0), whole(0, 0)}, {whole(0, 1), whole(1, 0)}, {whole(-1, -1), whole(1, -1)}},
	} {
		check(t, "sum "+string(rune('0'+i)), g2.Add(c[0].point(), c[1].point()), c[2])
		check(t, "sum "+string(rune('0'+i))+", the other way", g2.Add(c[1].point(), c[0].point()), c[2])
	}
	check(t, "(1, 0) twice", g2.Add(place{whole(1, 0), whole(0, 0)}.point(), place{whole(1, 0), whole(0, 0)}.point()), place{})
	check(t, "(0, 0) twice", g2.Add(api.G2{}, of(near(1, 0), near(2, 0), near(3, 0), near(9, 0))), place{})
	check(t, "(1, u) and (1, 1)", g2.Add(place{whole(1, 0), whole(0, 1)}.point(), place{whole(1, 0), whole(1, 0)}.point()), place{})
}

// P13.3: the first 80 multiples, each the one before and the point again; noughts above change nothing; orders 13 and 23 come through infinity and themselves on the way.
func TestSmallMultiples(t *testing.T) {
	for i, p := range onCurve() {
		want := place{}
		for k := range uint64(80) {
			for _, words := range [][]uint64{{k}, {k, 0, 0, 0, 0, 0, 0}} {
				checkMul(t, words, other(p, int64(i)+int64(k)), want)
			}
			want = want.plus(placed(p))
		}
	}
}

// multipliers are those of no word, of noughts, small ones, those about r and the curve's number of points, of words 2^64 - 1, and drawn ones of up to nine words.
func multipliers() [][]uint64 {
	all := [][]uint64{nil, {}, {0}, {0, 0, 0, 0, 0, 0, 0}, {1}, {2}, {1, 0, 0}, {0, 1}, {0, 0, 1}, {1 << 63}, {top}, {top, 0}, {0, top}, ones(2), ones(4), ones(6), ones(9)}
	for more := int64(-2); more <= 2; more++ {
		all = append(all, words(new(big.Int).Add(order(), big.NewInt(more)), 4), words(new(big.Int).Add(order(), big.NewInt(more)), 6))
		all = append(all, words(new(big.Int).Add(points(), big.NewInt(more)), 12))
	}
	random := rand.New(rand.NewSource(44))
	for n := 1; n <= 9; n++ {
		all = append(all, drawn(random, n), append(drawn(random, n), 0, 0))
	}
	return all
}

// P13.3: multiples of many words, as they are reckoned bit by bit.
func TestMul(t *testing.T) {
	for i, p := range onCurve() {
		for j, k := range multipliers() {
			if (i+j)%4 == 0 {
				checkMul(t, k, other(p, int64(j)), placed(p).times(number(k)))
			}
		}
	}
}

// P13.3: r times a multiple of the base is infinity, and r - 1 times it its opposite; as many times any point as the curve has points is infinity too.
func TestOrders(t *testing.T) {
	one := big.NewInt(1)
	p := g2.Base()
	for range 10 {
		checkMul(t, words(order(), 4), p, place{})
		checkMul(t, words(new(big.Int).Sub(order(), one), 4), p, placed(g2.Neg(p)))
		checkMul(t, words(new(big.Int).Add(order(), one), 4), p, placed(p))
		p = g2.Add(g2.Add(p, p), g2.Base())
	}
	for _, q := range onCurve() {
		checkMul(t, words(points(), 12), q, place{})
		checkMul(t, words(new(big.Int).Add(points(), one), 12), q, placed(q))
	}
	last := onCurve()[len(onCurve())-1]
	if placed(last).times(order()).isInfinity() {
		t.Error("the drawn point is of order r: no point off the subgroup is tested")
	}
}

// P13.3: multiples whose last step adds the base to a point with its Y and another X: x·x + r and 2·r + 1 - x·x times it, with chapter 14's x.
func TestMulOverOneY(t *testing.T) {
	square := written("D2010000 00010000")
	square.Mul(square, square)
	first := new(big.Int).Add(square, order())
	second := new(big.Int).Sub(new(big.Int).Lsh(order(), 1), square)
	for _, k := range []*big.Int{first, second.Add(second, big.NewInt(1))} {
		met := base().times(new(big.Int).Sub(k, big.NewInt(1)))
		if !met.y.minus(base().y).isZero() || met.x.minus(base().x).isZero() {
			t.Errorf("%v times the base does not have its Y", k)
		}
		checkMul(t, words(k, 5), base().point(), met.plus(base()))
	}
}

// P13.3: a multiple of a sum of numbers is the sum of the multiples, one of their product a multiple's multiple.
func TestSumsOfMultiples(t *testing.T) {
	random := rand.New(rand.NewSource(45))
	for _, p := range onCurve() {
		k, l := drawn(random, 1+random.Intn(5)), drawn(random, 1+random.Intn(5))
		first, _ := g2.Mul(k, p)
		second, _ := g2.Mul(l, p)
		checkMul(t, words(new(big.Int).Add(number(k), number(l)), 6), p, placed(g2.Add(first, second)))
		twice, _ := g2.Mul(l, first)
		checkMul(t, words(new(big.Int).Mul(number(k), number(l)), 10), p, placed(twice))
	}
}

// P13.3: a long list: the highest word counts, noughts above it change nothing.
func TestMulByLongLists(t *testing.T) {
	random := rand.New(rand.NewSource(46))
	p := lifted(big.NewInt(1000), big.NewInt(3))
	k := append(drawn(random, 100), 1)
	want := p.times(new(big.Int).Mod(number(k), points()))
	checkMul(t, k, p.point(), want)
	checkMul(t, append(k, make([]uint64, 20000)...), p.point(), want)
	checkMul(t, make([]uint64, 20000), p.point(), place{})
}

// P13.3: infinity times anything is infinity, whatever numbers it has.
func TestMulOfInfinity(t *testing.T) {
	for _, k := range multipliers() {
		for _, p := range variants() {
			if p.Inf {
				checkMul(t, k, p, place{})
			}
		}
	}
}

// checkError holds an answer to an error, without a point.
func checkError(t *testing.T, p api.G2, e, want api.Errno) {
	t.Helper()
	if e != want || p != (api.G2{}) {
		t.Errorf("%v, %v, want %v", p, e, want)
	}
}

// P13.3: ErrCurve off the curve, by no words and by 0 too.
func TestMulOffTheCurve(t *testing.T) {
	for _, p := range offCurve() {
		for _, k := range [][]uint64{nil, {0}, {1}, {2}, {top}, words(order(), 4)} {
			got, e := g2.Mul(k, p)
			checkError(t, got, e, api.ErrCurve)
			got, e = g2.Sum([][]uint64{k}, []api.G2{p})
			checkError(t, got, e, api.ErrCurve)
		}
	}
}

// P13.3: sums of none, one and several points, of opposites, of infinities and of the same point many times.
func TestSum(t *testing.T) {
	all, numbers := onCurve(), multipliers()
	random := rand.New(rand.NewSource(47))
	for n := range 32 {
		var ks [][]uint64
		var ps []api.G2
		want := place{}
		for range n % 8 {
			k, p := numbers[random.Intn(len(numbers))], all[random.Intn(len(all))]
			ks, ps = append(ks, k), append(ps, other(p, random.Int63n(10)))
			want = want.plus(placed(p).times(number(k)))
		}
		got, e := g2.Sum(ks, ps)
		if check(t, "Sum", got, want); e != api.OK {
			t.Errorf("Sum of %v and %v: %v", ks, ps, e)
		}
	}
}

// P13.3: sums whose answers are known.
func TestKnownSumsOfMultiples(t *testing.T) {
	p := g2.Base()
	none := of(api.Fp{7}, near(1, 0), api.Fp{}, api.Fp(ones(size)))
	none.Inf = true
	thrice := base().times(big.NewInt(3))
	for i, c := range []struct {
		ks   [][]uint64
		ps   []api.G2
		want place
	}{
		{nil, nil, place{}},
		{[][]uint64{}, []api.G2{}, place{}},
		{nil, []api.G2{}, place{}},
		{[][]uint64{{1}}, []api.G2{p}, base()},
		{[][]uint64{{3}}, []api.G2{p}, thrice},
		{[][]uint64{nil}, []api.G2{p}, place{}},
		{[][]uint64{{1}}, []api.G2{none}, place{}},
		{[][]uint64{{1}, {1}}, []api.G2{p, g2.Neg(p)}, place{}},
		{[][]uint64{{1}, {1}, {1}}, []api.G2{p, p, other(p, 1)}, thrice},
		{[][]uint64{{1}, {2}}, []api.G2{p, p}, thrice},
		{[][]uint64{{5}, {2, 0}}, []api.G2{p, g2.Neg(p)}, thrice},
		{[][]uint64{{1}, {9}, {1}}, []api.G2{p, none, g2.Add(p, p)}, thrice},
		{[][]uint64{{0}, {3}, nil}, []api.G2{p, p, p}, thrice},
		{[][]uint64{words(order(), 4), {3}}, []api.G2{p, p}, thrice},
		{slices.Repeat([][]uint64{{1}}, 300), slices.Repeat([]api.G2{p}, 300), base().times(big.NewInt(300))},
	} {
		got, e := g2.Sum(c.ks, c.ps)
		if got != c.want.point() || e != api.OK {
			t.Errorf("%d: %v, %v", i, got, e)
		}
	}
}

// P13.3: ErrArg, if there are more or fewer numbers than points, ahead of ErrCurve; ErrCurve, if one of the points is off the curve, in whatever place, by 0 times it too.
func TestSumErrors(t *testing.T) {
	p, off := g2.Base(), low()[0]
	for n := range 5 {
		for m := range 5 {
			ks := slices.Repeat([][]uint64{{1}}, n)
			for _, one := range []api.G2{p, off, {Inf: true}} {
				got, e := g2.Sum(ks, slices.Repeat([]api.G2{one}, m))
				switch {
				case n != m:
					checkError(t, got, e, api.ErrArg)
				case one == off && n > 0:
					checkError(t, got, e, api.ErrCurve)
				case e != api.OK:
					t.Errorf("%d of %v: %v", n, one, e)
				}
			}
		}
		for at := range n {
			ps := slices.Repeat([]api.G2{p}, n)
			ps[at] = off
			for _, k := range [][]uint64{nil, {0}, {1}, {top, 3}} {
				got, e := g2.Sum(slices.Repeat([][]uint64{k}, n), ps)
				checkError(t, got, e, api.ErrCurve)
			}
		}
	}
}

// P13.4: the base's numbers are the chapter's; it is on the curve, and r times it, a prime, is infinity.
func TestBase(t *testing.T) {
	check(t, "Base", g2.Base(), base())
	if !g2.On(g2.Base()) || !base().isOn() || !order().ProbablyPrime(20) {
		t.Error("the base is not on the curve, or r is no prime")
	}
	checkMul(t, words(order(), 4), g2.Base(), place{})
}

// P13.5: orders and brackets do not matter on the curve; a point and its opposite are infinity; what is added is taken away.
func TestGroup(t *testing.T) {
	all := variants()
	random := rand.New(rand.NewSource(48))
	for range 3000 {
		p, q, s := all[random.Intn(len(all))], all[random.Intn(len(all))], all[random.Intn(len(all))]
		for law, sides := range map[string][2]api.G2{
			"order":              {g2.Add(p, q), g2.Add(q, p)},
			"brackets":           {g2.Add(g2.Add(p, q), s), g2.Add(p, g2.Add(q, s))},
			"opposites":          {g2.Add(p, g2.Neg(p)), {Inf: true}},
			"differences":        {g2.Add(g2.Add(p, q), g2.Neg(q)), g2.Reduce(p)},
			"opposites of sums":  {g2.Neg(g2.Add(p, q)), g2.Add(g2.Neg(p), g2.Neg(q))},
			"twice, in brackets": {g2.Add(g2.Add(p, q), g2.Add(p, q)), g2.Add(g2.Add(p, p), g2.Add(q, q))},
		} {
			if sides[0] != sides[1] {
				t.Errorf("%s: %v, %v, %v: %v and %v", law, p, q, s, sides[0], sides[1])
			}
		}
		if !g2.On(g2.Add(p, q)) || !g2.On(g2.Neg(p)) {
			t.Errorf("%v and %v: their sum is off the curve", p, q)
		}
	}
}

// R4, R5: the words of numbers, the lists and the points stay as they were, spare room too, and are not kept; asked again, and with multiples of p added, a call answers the same.
func TestListsAreNeitherChangedNorKept(t *testing.T) {
	random := rand.New(rand.NewSource(49))
	p := other(base().point(), 2)
	for n := range 6 {
		room := drawn(random, n+4)
		before := slices.Clone(room)
		ks := slices.Repeat([][]uint64{room[:n]}, n+2)[:n]
		ps := slices.Repeat([]api.G2{p}, n+2)[:n]
		first, _ := g2.Mul(room[:n], p)
		sum, _ := g2.Sum(ks, ps)
		if !slices.Equal(room, before) || slices.ContainsFunc(ps[:n+2], func(q api.G2) bool { return q != p }) {
			t.Errorf("%d words: they, or the points, are changed", n)
		}
		for i, k := range ks[:n+2] {
			if len(k) != n || cap(k) != cap(room) || n > 0 && &k[0] != &room[0] {
				t.Errorf("%d words: list %d is changed", n, i)
			}
		}
		for i := range room {
			room[i] ^= top
		}
		clear(ps)
		again, _ := g2.Mul(before[:n], g2.Reduce(p))
		sumAgain, _ := g2.Sum(slices.Repeat([][]uint64{before[:n]}, n), slices.Repeat([]api.G2{other(p, 1)}, n))
		if first != again || sum != sumAgain {
			t.Errorf("%d words: %v and %v, then %v and %v", n, first, sum, again, sumAgain)
		}
	}
}

// The chapter's section 'Examples', as it stands there.
func TestChapterExamples(t *testing.T) {
	p, none := g2.Base(), api.G2{Inf: true}
	if got := g2.Add(p, g2.Neg(p)); got != none {
		t.Errorf("%v", got)
	}
	if got, e := g2.Mul([]uint64{0}, p); got != none || e != api.OK {
		t.Errorf("%v, %v", got, e)
	}
	if got, e := g2.Mul([]uint64{2}, p); got != g2.Add(p, p) || e != api.OK {
		t.Errorf("%v, %v", got, e)
	}
	got, e := g2.Mul([]uint64{1}, api.G2{})
	checkError(t, got, e, api.ErrCurve)
}
