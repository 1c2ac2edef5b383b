package miller_test

import (
	"fmt"
	"math/big"
	"math/rand"
	"slices"
	"strings"
	"sync"
	"testing"

	"sigil/api"
	"sigil/fp"
	"sigil/fp12"
	"sigil/fp2"
	"sigil/g1"
	"sigil/g2"
	"sigil/miller"
)

// size is how many words a number has.
const size = 6

// top is a word whose bits are all 1.
const top = 1<<64 - 1

const (
	// primeDigits are p, as chapter 4 writes it, and orderDigits r, as chapter 6 does.
	primeDigits = "1A0111EA 397FE69A 4B1BA7B6 434BACD7 64774B84 F38512BF 6730D2A0 F6B0F624 1EABFFFE B153FFFF B9FEFFFF FFFFAAAB"
	orderDigits = "73EDA753 299D7D48 3339D808 09A1D805 53BDA402 FFFE5BFE FFFFFFFF 00000001"
	// loopDigits are the number whose bits the loop goes through, as the chapter writes it: 0 - x.
	loopDigits = "D2010000 00010000"
	// lowX and lowY are the base curve's base, as chapter 12 writes it, baseXA to baseYB the twisted one's, as chapter 13 does.
	lowX   = "17F1D3A7 3197D794 2695638C 4FA9AC0F C3688C4F 9774B905 A14E3A3F 171BAC58 6C55E83F F97A1AEF FB3AF00A DB22C6BB"
	lowY   = "08B3F481 E3AAA0F1 A09E30ED 741D8AE4 FCF5E095 D5D00AF6 00DB18CB 2C04B3ED D03CC744 A2888AE4 0CAA2329 46C5E7E1"
	baseXA = "024AA2B2 F08F0A91 26080527 2DC51051 C6E47AD4 FA403B02 B4510B64 7AE3D177 0BAC0326 A805BBEF D48056C8 C121BDB8"
	baseXB = "13E02B60 52719F60 7DACD3A0 88274F65 596BD0D0 9920B61A B5DA61BB DC7F5049 334CF112 13945D57 E5AC7D05 5D042B7E"
	baseYA = "0CE5D527 727D6E11 8CC9CDC6 DA2E351A ADFD9BAA 8CBDD3A7 6D429A69 5160D12C 923AC9CC 3BACA289 E1935486 08B82801"
	baseYB = "0606C4A0 2EA734CC 32ACD2B0 2BC28B99 CB3E287E 85A763AF 267492AB 572E99AB 3F370D27 5CEC1DA1 AAA9075F F05F79BE"
)

// written is the number of hexadecimal digits.
func written(digits string) *big.Int {
	a, _ := new(big.Int).SetString(strings.ReplaceAll(digits, " ", ""), 16)
	return a
}

// prime is p.
var prime = sync.OnceValue(func() *big.Int { return written(primeDigits) })

// order is r.
var order = sync.OnceValue(func() *big.Int { return written(orderDigits) })

// loop is the number whose bits the loop goes through.
func loop() *big.Int { return written(loopDigits) }

// number is what words mean: each times 2^64's power of its place, added.
func number(words []uint64) *big.Int {
	sum := new(big.Int)
	for _, word := range slices.Backward(words) {
		sum.Lsh(sum, 64)
		sum.Add(sum, new(big.Int).SetUint64(word))
	}
	return sum
}

// six are the six words of a number below 2^384.
func six(a *big.Int) api.Fp {
	var all api.Fp
	for i := range all {
		all[i] = new(big.Int).Rsh(a, uint(64*i)).Uint64()
	}
	return all
}

// near is so many times p, and a bit more or less.
func near(times, more int64) api.Fp {
	a := new(big.Int).Mul(prime(), big.NewInt(times))
	return six(a.Add(a, big.NewInt(more)))
}

// edges are the parts that the chapter's edges are made of: 0, 1, 2 and p - 1, p and more, multiples of p, six words all 2^64 - 1.
func edges() []api.Fp {
	all := api.Fp{top, top, top, top, top, top}
	return []api.Fp{{}, {1}, {2}, near(1, -2), near(1, -1), near(1, 0), near(1, 1), near(1, 2), near(2, 0), near(9, -1), near(9, 0), near(9, 2), all}
}

// drawn are six words, many of which lie at the edges of a word.
func drawn(random *rand.Rand) api.Fp {
	var all api.Fp
	for i := range all {
		switch random.Intn(8) {
		case 0:
			all[i] = 0
		case 1:
			all[i] = top
		default:
			all[i] = random.Uint64()
		}
	}
	return all
}

// more is a number with so many times p on it, as often as six words hold it.
func more(a api.Fp, times int64) api.Fp {
	sum := new(big.Int).Mul(prime(), big.NewInt(times))
	sum.Add(sum, number(a[:]))
	if sum.BitLen() > 64*size {
		return more(a, times-1)
	}
	return six(sum)
}

// parts1 are the places of a point's numbers.
func parts1(p *api.G1) []*api.Fp { return []*api.Fp{&p.X, &p.Y} }

// parts2 are the places of a point's numbers.
func parts2(p *api.G2) []*api.Fp { return []*api.Fp{&p.X.A, &p.X.B, &p.Y.A, &p.Y.B} }

// of is the point of four parts.
func of(xA, xB, yA, yB api.Fp) api.G2 {
	return api.G2{X: api.Fp2{A: xA, B: xB}, Y: api.Fp2{A: yA, B: yB}}
}

// pair is A + B·u of the library's numbers, below p; those of the base curve have no B.
type pair struct{ a, b *big.Int }

// left is what is left of a number modulo p.
func left(a *big.Int) *big.Int { return new(big.Int).Mod(a, prime()) }

// whole is the pair of small numbers.
func whole(a, b int64) pair { return pair{left(big.NewInt(a)), left(big.NewInt(b))} }

// single is a number without B.
func single(a *big.Int) pair { return pair{left(a), new(big.Int)} }

// paired is a number as the library's.
func paired(c api.Fp2) pair { return pair{left(number(c.A[:])), left(number(c.B[:]))} }

// number is the number that is meant.
func (c pair) number() api.Fp2 { return api.Fp2{A: six(c.a), B: six(c.b)} }

// isZero tells whether a number is 0.
func (c pair) isZero() bool { return c.a.Sign() == 0 && c.b.Sign() == 0 }

// plus is a sum.
func (c pair) plus(d pair) pair {
	return pair{left(new(big.Int).Add(c.a, d.a)), left(new(big.Int).Add(c.b, d.b))}
}

// minus is a difference.
func (c pair) minus(d pair) pair {
	return pair{left(new(big.Int).Sub(c.a, d.a)), left(new(big.Int).Sub(c.b, d.b))}
}

// times is a product, of four.
func (c pair) times(d pair) pair {
	product := func(e, f *big.Int) *big.Int { return new(big.Int).Mul(e, f) }
	a := product(c.a, d.a)
	b := product(c.a, d.b)
	return pair{left(a.Sub(a, product(c.b, d.b))), left(b.Add(b, product(c.b, d.a)))}
}

// norm is a number times the one with the opposite of its B.
func (c pair) norm() *big.Int { return c.times(pair{c.a, left(new(big.Int).Neg(c.b))}).a }

// inverse is the inverse of a number that is not 0.
func (c pair) inverse() pair {
	return single(new(big.Int).ModInverse(c.norm(), prime())).times(pair{c.a, left(new(big.Int).Neg(c.b))})
}

// singleRoot is a square root, if there is one, of a number without B that has none with B alone.
func (c pair) singleRoot() (pair, bool) {
	a := new(big.Int).ModSqrt(c.a, prime())
	if a == nil {
		return pair{}, false
	}
	return single(a), true
}

// root is a square root, if there is one, of a number with a B that is not 0.
func (c pair) root() (pair, bool) {
	norm := new(big.Int).ModSqrt(c.norm(), prime())
	if norm == nil {
		return pair{}, false
	}
	half := new(big.Int).ModInverse(big.NewInt(2), prime())
	for _, sign := range []int64{1, -1} {
		square := new(big.Int).Mul(big.NewInt(sign), norm)
		square = left(square.Mul(square.Add(square, c.a), half))
		if a := new(big.Int).ModSqrt(square, prime()); a != nil && a.Sign() != 0 {
			b := new(big.Int).ModInverse(left(new(big.Int).Add(a, a)), prime())
			return pair{a, left(b.Mul(b, c.b))}, true
		}
	}
	return pair{}, false
}

// place is a point of the library's numbers, of either curve; without numbers it is infinity.
type place struct{ x, y pair }

// isInfinity tells whether a point is the one at infinity.
func (a place) isInfinity() bool { return a.x.a == nil }

// placed1 is a point of the base curve as the library's numbers.
func placed1(p api.G1) place {
	if p.Inf {
		return place{}
	}
	return place{single(number(p.X[:])), single(number(p.Y[:]))}
}

// placed2 is a point of the twisted curve as the library's numbers.
func placed2(p api.G2) place {
	if p.Inf {
		return place{}
	}
	return place{paired(p.X), paired(p.Y)}
}

// point1 is the point of the base curve that is to be answered for it.
func (a place) point1() api.G1 {
	if a.isInfinity() {
		return api.G1{Inf: true}
	}
	return api.G1{X: six(a.x.a), Y: six(a.y.a)}
}

// point2 is the point of the twisted curve that is to be answered for it.
func (a place) point2() api.G2 {
	if a.isInfinity() {
		return api.G2{Inf: true}
	}
	return api.G2{X: a.x.number(), Y: a.y.number()}
}

// constants are what is added to X's cube: the base curve's, the twisted one's.
func constant1() pair { return whole(4, 0) }
func constant2() pair { return whole(4, 4) }

// right is the right side of a curve's equation.
func right(x, constant pair) pair { return x.times(x).times(x).plus(constant) }

// isOn is what a curve's equation says.
func (a place) isOn(constant pair) bool {
	return a.isInfinity() || right(a.x, constant).minus(a.y.times(a.y)).isZero()
}

// slope is the slope of the line through both, or of the one at both, and whether there is one.
func (a place) slope(b place) (pair, bool) {
	above, below := b.y.minus(a.y), b.x.minus(a.x)
	if below.isZero() {
		if !above.isZero() || a.y.isZero() {
			return pair{}, false
		}
		above, below = whole(3, 0).times(a.x).times(a.x), a.y.plus(a.y)
	}
	return above.times(below.inverse()), true
}

// plus is a sum of points.
func (a place) plus(b place) place {
	if a.isInfinity() {
		return b
	}
	if b.isInfinity() {
		return a
	}
	slope, is := a.slope(b)
	if !is {
		return place{}
	}
	x := slope.times(slope).minus(a.x).minus(b.x)
	return place{x, slope.times(a.x.minus(x)).minus(a.y)}
}

// opposite is a point's.
func (a place) opposite() place {
	if a.isInfinity() {
		return a
	}
	return place{a.x, whole(0, 0).minus(a.y)}
}

// times is a point so many times added, bit by bit.
func (a place) times(k *big.Int) place {
	var sum place
	for bit := k.BitLen() - 1; bit >= 0; bit-- {
		sum = sum.plus(sum)
		if k.Bit(bit) == 1 {
			sum = sum.plus(a)
		}
	}
	return sum
}

// scaled is the point with X c·c times and Y c·c·c times: of another curve, but sums go there alike.
func (a place) scaled(c pair) place {
	square := c.times(c)
	return place{a.x.times(square), a.y.times(square).times(c)}
}

// base1 is the base curve's base.
func base1() place { return place{single(written(lowX)), single(written(lowY))} }

// base2 is the twisted curve's base.
func base2() place {
	return place{pair{written(baseXA), written(baseXB)}, pair{written(baseYA), written(baseYB)}}
}

// lifted1 is the first point of the base curve with an X at least this.
func lifted1(from *big.Int) place {
	for x := single(from); ; x = x.plus(whole(1, 0)) {
		if y, is := right(x, constant1()).singleRoot(); is {
			return place{x, y}
		}
	}
}

// lifted2 is the first point of the twisted curve with this A of X, and the B of X at least b.
func lifted2(a, b *big.Int) place {
	for x := (pair{left(a), left(b)}); ; x = x.plus(whole(0, 1)) {
		if y, is := right(x, constant2()).root(); is {
			return place{x, y}
		}
	}
}

// rest1 is how many points the base curve has, through r.
func rest1() *big.Int {
	more := new(big.Int).Add(loop(), big.NewInt(1))
	return more.Div(more.Mul(more, more), big.NewInt(3))
}

// rest2 is how many points the twisted curve has, through r: the ninth part of a polynomial.
func rest2() *big.Int {
	sum := new(big.Int)
	for _, factor := range []int64{1, 4, 5, 0, -4, -6, -4, 4, 13} {
		sum.Mul(sum, loop())
		sum.Add(sum, big.NewInt(factor))
	}
	return sum.Div(sum, big.NewInt(9))
}

// ofOrder is a point whose order is that small prime; lifted makes points, of which the curve has rest times r.
func ofOrder(n int64, rest *big.Int, lifted func(from int64) place) place {
	prime := big.NewInt(n)
	cofactor := new(big.Int).Mul(rest, order())
	for left := new(big.Int); new(big.Int).Mod(cofactor, prime).Sign() == 0; {
		cofactor.DivMod(cofactor, prime, left)
	}
	for from := int64(1); ; from++ {
		p := lifted(from).times(cofactor)
		for next := p.times(prime); !next.isInfinity(); next = p.times(prime) {
			p = next
		}
		if !p.isInfinity() {
			return p
		}
	}
}

// small1 are points of the base curve of all its small orders.
var small1 = sync.OnceValue(func() []place {
	var all []place
	for _, n := range []int64{3, 11, 10177, 859267, 52437899} {
		all = append(all, ofOrder(n, rest1(), func(from int64) place { return lifted1(big.NewInt(from)) }))
	}
	return all
})

// small2 are points of the twisted curve of all its small orders.
var small2 = sync.OnceValue(func() []place {
	var all []place
	for _, n := range []int64{13, 23, 2713, 11953, 262069} {
		all = append(all, ofOrder(n, rest2(), func(from int64) place { return lifted2(big.NewInt(from), big.NewInt(from)) }))
	}
	return all
})

// some are infinity, a base, its multiples and their opposites, points of small orders, sums of those with the base, and points lifted, of no small order.
func some(base place, small, lifted []place) []place {
	all := []place{{}}
	random := rand.New(rand.NewSource(150))
	for _, k := range []*big.Int{big.NewInt(1), big.NewInt(2), big.NewInt(3), loop(), new(big.Int).Rand(random, order())} {
		p := base.times(k)
		all = append(all, p, p.opposite())
	}
	for i, p := range small {
		next := small[(i+1)%len(small)]
		all = append(all, p, p.opposite(), p.plus(p), p.plus(next), p.plus(base))
	}
	for _, p := range lifted {
		all = append(all, p, p.plus(base))
	}
	return all
}

// onCurve1 are points of the base curve.
var onCurve1 = sync.OnceValue(func() []place {
	var lifted []place
	random := rand.New(rand.NewSource(151))
	for i := range 4 {
		lifted = append(lifted, lifted1(new(big.Int).Rand(random, prime())), lifted1(big.NewInt(int64(i))))
	}
	return some(base1(), small1(), lifted)
})

// onCurve2 are points of the twisted curve.
var onCurve2 = sync.OnceValue(func() []place {
	var lifted []place
	random := rand.New(rand.NewSource(152))
	for i := range 4 {
		lifted = append(lifted, lifted2(new(big.Int).Rand(random, prime()), new(big.Int).Rand(random, prime())), lifted2(big.NewInt(int64(i)), new(big.Int)))
	}
	return some(base2(), small2(), lifted)
})

// other1 is a point with other words for its numbers.
func other1(p api.G1, times int) api.G1 {
	for i, part := range parts1(&p) {
		*part = more(*part, int64((times+4*i)%10))
	}
	return p
}

// other2 is a point with other words for its numbers.
func other2(p api.G2, times int) api.G2 {
	for i, part := range parts2(&p) {
		*part = more(*part, int64((times+3*i)%10))
	}
	return p
}

// infinities1 are the base curve's point at infinity, with any numbers.
func infinities1() []api.G1 {
	base := base1().point1()
	all := []api.G1{{Inf: true}, {X: base.X, Y: base.Y, Inf: true}, {X: base.X, Inf: true}, {Y: base.Y, Inf: true}}
	for i, edge := range edges() {
		all = append(all, api.G1{X: edge, Y: edges()[i/2], Inf: true})
	}
	return all
}

// infinities2 are the twisted curve's point at infinity, with any numbers.
func infinities2() []api.G2 {
	base := base2().point2()
	all := []api.G2{{Inf: true}, {X: base.X, Y: base.Y, Inf: true}, {X: base.X, Inf: true}, {Y: base.Y, Inf: true}}
	for i, edge := range edges() {
		p := of(edges()[i/2], edge, edge, edges()[i/3])
		p.Inf = true
		all = append(all, p)
	}
	return all
}

// offCurve1 are points that are not on the base curve: X and Y 0, of edges, of one point's X and another's Y, drawn, and those of other curves where sums go alike.
var offCurve1 = sync.OnceValue(func() []api.G1 {
	random := rand.New(rand.NewSource(153))
	all := []api.G1{{}}
	for _, edge := range edges() {
		all = append(all, api.G1{X: edge, Y: edge}, api.G1{X: edge}, api.G1{Y: edge}, api.G1{X: drawn(random), Y: drawn(random)})
	}
	for i, a := range onCurve1()[1:] {
		p, q := a.point1(), onCurve1()[1+i/2].point1()
		all = append(all, api.G1{X: p.X, Y: q.Y}, api.G1{X: p.Y, Y: p.X}, api.G1{X: p.X, Y: drawn(random)}, other1(a.scaled(whole(2, 0)).point1(), i))
		p.Y[i%size] ^= 1 << (i % 64)
		all = append(all, p)
	}
	return slices.DeleteFunc(all, func(p api.G1) bool { return placed1(p).isOn(constant1()) })
})

// offCurve2 are points that are not on the twisted curve: X and Y 0, of edges, of one point's X and another's Y, those of the base curve, drawn, and those of other curves where sums go alike.
var offCurve2 = sync.OnceValue(func() []api.G2 {
	random := rand.New(rand.NewSource(154))
	all := []api.G2{{}}
	for _, edge := range edges() {
		all = append(all, of(edge, edge, edge, edge), of(edge, api.Fp{}, edge, api.Fp{}), of(api.Fp{}, edge, api.Fp{}, api.Fp{}), of(api.Fp{}, api.Fp{}, api.Fp{1}, edge), of(drawn(random), drawn(random), drawn(random), drawn(random)))
	}
	for i, a := range onCurve2()[1:] {
		p, q := a.point2(), onCurve2()[1+i/2].point2()
		all = append(all, api.G2{X: p.X, Y: q.Y}, api.G2{X: p.Y, Y: p.X}, of(p.X.A, p.X.B, drawn(random), p.Y.B), other2(a.scaled(whole(1, 1)).point2(), i))
		p.Y.B[i%size] ^= 1 << (i % 64)
		all = append(all, p)
	}
	for _, a := range onCurve1()[1:8] {
		all = append(all, a.point2())
	}
	return slices.DeleteFunc(all, func(p api.G2) bool { return placed2(p).isOn(constant2()) })
})

// any1 are points of the base curve and off it, with words below p and not, and infinity.
var any1 = sync.OnceValue(func() []api.G1 {
	all := append(infinities1(), offCurve1()...)
	for i, a := range onCurve1() {
		all = append(all, a.point1(), other1(a.point1(), i))
	}
	return all
})

// any2 are points of the twisted curve and off it, with words below p and not, and infinity.
var any2 = sync.OnceValue(func() []api.G2 {
	all := append(infinities2(), offCurve2()...)
	for i, a := range onCurve2() {
		all = append(all, a.point2(), other2(a.point2(), i))
	}
	return all
})

// wide is a number of the library's: what each of w's powers has, whose sixth is 1 + u.
type wide [6]pair

// constant is a number without w.
func constant(c pair) wide {
	none := whole(0, 0)
	return wide{c, none, none, none, none, none}
}

// unit is 1.
func unit() wide { return constant(whole(1, 0)) }

// widened is a number as the library's.
func widened(a api.Fp12) wide {
	return wide{paired(a.A.A), paired(a.B.A), paired(a.A.B), paired(a.B.B), paired(a.A.C), paired(a.B.C)}
}

// number is the number that is meant.
func (x wide) number() api.Fp12 {
	return api.Fp12{
		A: api.Fp6{A: x[0].number(), B: x[2].number(), C: x[4].number()},
		B: api.Fp6{A: x[1].number(), B: x[3].number(), C: x[5].number()},
	}
}

// times is a product.
func (x wide) times(y wide) wide {
	product := constant(whole(0, 0))
	for i, a := range x {
		for j, b := range y {
			term := a.times(b)
			if i+j >= len(x) {
				term = term.times(whole(1, 1))
			}
			to := &product[(i+j)%len(x)]
			*to = to.plus(term)
		}
	}
	return product
}

// conjugate is a number with the opposites of what w's odd powers have.
func (x wide) conjugate() wide {
	for i := 1; i < len(x); i += 2 {
		x[i] = whole(0, 0).minus(x[i])
	}
	return x
}

// lineOf is P15.1's number: w·w stands for v.
func lineOf(slope pair, q, p place) wide {
	line := constant(slope.times(q.x).minus(q.y))
	line[2] = whole(0, 0).minus(slope.times(p.x))
	line[3] = p.y
	return line
}

// lineNumber is P15.2's.
func lineNumber(t, q, p place) wide {
	if t.isInfinity() || q.isInfinity() || p.isInfinity() {
		return unit()
	}
	slope, is := t.slope(q)
	if !is {
		line := constant(t.x)
		line[2] = whole(0, 0).minus(p.x)
		return line
	}
	return lineOf(slope, t, p)
}

// loopNumber is P15.3's, of two points of the curves, and how often a sum on the way is infinity.
func loopNumber(p, q place) (wide, int) {
	if p.isInfinity() || q.isInfinity() {
		return unit(), 0
	}
	f, t, times := unit(), q, 0
	step := func(other place) {
		f = f.times(lineNumber(t, other, p))
		if t = t.plus(other); t.isInfinity() {
			times++
		}
	}
	for bit := loop().BitLen() - 2; bit >= 0; bit-- {
		f = f.times(f)
		step(t)
		if loop().Bit(bit) == 1 {
			step(q)
		}
	}
	return f.conjugate(), times
}

// loopByCalls is P15.3's number by the calls below, and by Step.
func loopByCalls(p api.G1, q api.G2) api.Fp12 {
	f, t := unit().number(), q
	for bit := loop().BitLen() - 2; bit >= 0; bit-- {
		sum, line := miller.Step(t, t, p)
		f, t = fp12.Mul(fp12.Mul(f, f), line), sum
		if loop().Bit(bit) == 1 {
			sum, line = miller.Step(t, q, p)
			f, t = fp12.Mul(f, line), sum
		}
	}
	return fp12.Conj(f)
}

// ask is what Line is asked.
type ask struct {
	slope api.Fp2
	q     api.G2
	p     api.G1
}

// parts are the places of its eight numbers.
func (a *ask) parts() []*api.Fp {
	return append(append([]*api.Fp{&a.slope.A, &a.slope.B}, parts2(&a.q)...), parts1(&a.p)...)
}

// check holds Line's answer to P15.1, whatever is marked as infinity.
func (a ask) check(t *testing.T) {
	t.Helper()
	q := place{paired(a.q.X), paired(a.q.Y)}
	p := place{single(number(a.p.X[:])), single(number(a.p.Y[:]))}
	want := lineOf(paired(a.slope), q, p).number()
	for _, inf := range []int{0, 1, 2, 3} {
		a.q.Inf, a.p.Inf = inf%2 == 1, inf/2 == 1
		if got := miller.Line(a.slope, a.q, a.p); got != want {
			t.Errorf("Line of %v: %v, want %v", a, got, want)
		}
	}
}

// drawnAsk is one of any words.
func drawnAsk(random *rand.Rand) ask {
	var a ask
	for _, part := range a.parts() {
		*part = drawn(random)
	}
	return a
}

// P15.1: a line's number, of any words, is as the promise has it, part by part; points marked as infinity count as all others.
func TestLine(t *testing.T) {
	random := rand.New(rand.NewSource(155))
	for range 500 {
		drawnAsk(random).check(t)
	}
	for i := range any2() {
		a := drawnAsk(random)
		a.q, a.p = any2()[i], any1()[random.Intn(len(any1()))]
		a.check(t)
	}
}

// P15.1: words at the edges, p and more, all bits 1, in each part of each argument, in all, and a slope of 0; answers are below p.
func TestLineAtEdges(t *testing.T) {
	random := rand.New(rand.NewSource(156))
	for _, edge := range edges() {
		var all ask
		for i := range all.parts() {
			one, any := ask{}, drawnAsk(random)
			*one.parts()[i], *any.parts()[i], *all.parts()[i] = edge, edge, edge
			one.check(t)
			any.check(t)
			all.check(t)
		}
		for _, none := range []api.Fp2{{}, {A: near(1, 0)}, {B: near(9, 0)}, {A: near(2, 0), B: near(1, 0)}} {
			a := drawnAsk(random)
			a.slope = none
			a.p.X = edge
			a.check(t)
			if line := miller.Line(a.slope, a.q, a.p); line.A.B != (api.Fp2{}) || line.A.A != fp2.Neg(a.q.Y) {
				t.Errorf("Line of %v: %v", a, line)
			}
		}
	}
}

// P15.1: small numbers, written out: (2 + 3·u)·(5 + 7·u) less 11 + 13·u, the opposite of 17 times 2 + 3·u, and 19.
func TestLineOfSmallNumbers(t *testing.T) {
	p := api.G1{X: api.Fp{17}, Y: api.Fp{19}}
	line := miller.Line(api.Fp2{A: api.Fp{2}, B: api.Fp{3}}, of(api.Fp{5}, api.Fp{7}, api.Fp{11}, api.Fp{13}), p)
	want := api.Fp12{
		A: api.Fp6{A: api.Fp2{A: near(1, -22), B: api.Fp{16}}, B: api.Fp2{A: near(1, -34), B: near(1, -51)}},
		B: api.Fp6{B: api.Fp2{A: api.Fp{19}}},
	}
	if line != want {
		t.Errorf("%v, want %v", line, want)
	}
	if line := miller.Line(api.Fp2{}, api.G2{}, api.G1{}); line != (api.Fp12{}) {
		t.Errorf("%v", line)
	}
}

// P15.4: a line's number is the sum of its parts: linear in p's Y, in p's X, and in the slope.
func TestLineIsLinear(t *testing.T) {
	random := rand.New(rand.NewSource(157))
	for range 200 {
		a, b := drawnAsk(random), drawnAsk(random)
		line := func(slope api.Fp2, p api.G1) api.Fp12 { return miller.Line(slope, a.q, p) }
		sum := func(slope api.Fp2, p api.G1) api.Fp12 { return fp12.Add(line(a.slope, a.p), line(slope, p)) }
		y, x := api.G1{X: a.p.X, Y: b.p.Y}, api.G1{X: b.p.X, Y: a.p.Y}
		for i, c := range []struct{ whole, none, parts api.Fp12 }{
			{line(a.slope, api.G1{X: a.p.X, Y: fp.Add(a.p.Y, b.p.Y)}), line(a.slope, api.G1{X: a.p.X}), sum(a.slope, y)},
			{line(a.slope, api.G1{X: fp.Add(a.p.X, b.p.X), Y: a.p.Y}), line(a.slope, api.G1{Y: a.p.Y}), sum(a.slope, x)},
			{line(fp2.Add(a.slope, b.slope), a.p), line(api.Fp2{}, a.p), sum(b.slope, a.p)},
		} {
			if fp12.Add(c.whole, c.none) != c.parts {
				t.Errorf("%d: %v, %v", i, a, b)
			}
		}
	}
}

// checkStep holds a step to P15.2: its point to g2.Add's, and to one reckoned apart, and its number to one reckoned apart.
func checkStep(t *testing.T, from, q api.G2, p api.G1) {
	t.Helper()
	sum, line := miller.Step(from, q, p)
	if want := placed2(from).plus(placed2(q)).point2(); sum != g2.Add(from, q) || sum != want {
		t.Errorf("Step of %v, %v, %v: %v, want %v", from, q, p, sum, want)
	}
	if want := lineNumber(placed2(from), placed2(q), placed1(p)).number(); line != want {
		t.Errorf("Step of %v, %v, %v: %v, want %v", from, q, p, line, want)
	}
}

// P15.2: steps of points on the curve and off it, with words below p and not, and of infinity, with any numbers.
func TestStep(t *testing.T) {
	random := rand.New(rand.NewSource(158))
	for range 1500 {
		checkStep(t, any2()[random.Intn(len(any2()))], any2()[random.Intn(len(any2()))], any1()[random.Intn(len(any1()))])
	}
}

// P15.2, P15.4: points added to themselves, with the same words and with others for the same numbers; both ways round.
func TestStepOfOnePoint(t *testing.T) {
	for i, q := range any2() {
		p := any1()[i%len(any1())]
		again := other2(g2.Reduce(q), 1+i)
		checkStep(t, q, q, p)
		checkStep(t, q, again, p)
		checkStep(t, again, q, p)
		for j := range 4 {
			part := g2.Reduce(q)
			*parts2(&part)[j] = more(*parts2(&part)[j], 1)
			checkStep(t, g2.Reduce(q), part, p)
		}
	}
}

// upright is the number of a line on which X does not change: t's X less p's X times v.
func upright(x api.Fp2, p api.G1) api.Fp12 {
	return api.Fp12{A: api.Fp6{A: fp2.Reduce(x), B: api.Fp2{A: fp.Neg(p.X)}}}
}

// P15.2: where the sum is infinity, the number is t's X less p's X times v: of opposites, of a point whose Y is 0, and of points off the curve with one X and two Y that are no opposites.
func TestStepUpright(t *testing.T) {
	random := rand.New(rand.NewSource(159))
	check := func(from, q api.G2, p api.G1) {
		t.Helper()
		checkStep(t, from, q, p)
		if sum, line := miller.Step(from, q, p); (sum != api.G2{Inf: true}) || line != upright(from.X, p) {
			t.Errorf("Step of %v, %v, %v: %v, %v", from, q, p, sum, line)
		}
	}
	for i, q := range any2() {
		p := any1()[random.Intn(len(any1()))]
		if q.Inf || p.Inf {
			continue
		}
		check(q, g2.Neg(q), p)
		check(g2.Neg(q), q, p)
		check(q, other2(g2.Neg(q), i), p)
		flat := api.G2{X: q.X, Y: []api.Fp2{{}, {A: near(1, 0)}, {B: near(2, 0)}, {A: near(9, 0), B: near(1, 0)}}[i%4]}
		check(flat, flat, p)
		check(flat, api.G2{X: flat.X}, p)
		check(api.G2{X: fp2.Reduce(flat.X)}, flat, p)
		for _, y := range []api.Fp2{{}, fp2.Add(q.Y, api.Fp2{A: api.Fp{1}}), fp2.Conj(fp2.Add(q.Y, api.Fp2{B: api.Fp{1}})), {A: drawn(random), B: drawn(random)}} {
			if y != fp2.Reduce(q.Y) {
				check(q, api.G2{X: q.X, Y: y}, p)
				check(other2(api.G2{X: fp2.Reduce(q.X), Y: y}, i), q, p)
			}
		}
	}
}

// P15.2: the number is 1 where p, t or q is infinity, whatever X and Y it has, and the point the sum all the same.
func TestStepOfInfinity(t *testing.T) {
	one := unit().number()
	for i, q := range any2() {
		for j, none := range infinities2() {
			p := any1()[(i+7*j)%len(any1())]
			for _, c := range []struct{ from, q api.G2 }{{none, q}, {q, none}, {none, none}} {
				checkStep(t, c.from, c.q, p)
				if _, line := miller.Step(c.from, c.q, p); line != one {
					t.Errorf("Step of %v, %v, %v: %v", c.from, c.q, p, line)
				}
			}
		}
		for j, none := range infinities1() {
			from := any2()[(i+5*j)%len(any2())]
			for _, from := range []api.G2{from, q, g2.Neg(q), {X: q.X}} {
				checkStep(t, from, q, none)
				if _, line := miller.Step(from, q, none); line != one {
					t.Errorf("Step of %v, %v, %v: %v", from, q, none, line)
				}
			}
		}
	}
}

// slopeBelow is the slope of two points that have one, by the calls below: three squares of X through Y twice, where they are one, else what Y is more through what X is.
func slopeBelow(t, q api.G2) api.Fp2 {
	if g2.Reduce(t) == g2.Reduce(q) {
		square := fp2.Mul(t.X, t.X)
		return fp2.Mul(fp2.Scale(square, api.Fp{3}), fp2.Inv(fp2.Scale(t.Y, api.Fp{2})))
	}
	return fp2.Mul(fp2.Sub(q.Y, t.Y), fp2.Inv(fp2.Sub(q.X, t.X)))
}

// drawnStep are two points, often one twice, whose sum is not infinity, nor one of them, and one of the base curve that is not infinity either.
func drawnStep(random *rand.Rand) (api.G2, api.G2, api.G1) {
	for {
		from, q, p := any2()[random.Intn(len(any2()))], any2()[random.Intn(len(any2()))], any1()[random.Intn(len(any1()))]
		if random.Intn(2) == 0 {
			q = other2(g2.Reduce(from), random.Intn(10))
		}
		if !from.Inf && !q.Inf && !p.Inf && !g2.Add(from, q).Inf {
			return from, q, p
		}
	}
}

// P15.2, P15.1: where there is a slope, the number is Line of it, t and p, by the tangent and by the chord; of q it is the same.
func TestStepIsLine(t *testing.T) {
	random := rand.New(rand.NewSource(160))
	for range 500 {
		from, q, p := drawnStep(random)
		slope := slopeBelow(from, q)
		_, line := miller.Step(from, q, p)
		if line != miller.Line(slope, from, p) || line != miller.Line(slope, q, p) {
			t.Errorf("Step of %v, %v, %v: %v, slope %v", from, q, p, line, slope)
		}
		if _, back := miller.Step(q, from, p); back != line {
			t.Errorf("Step of %v, %v, %v: %v, and %v", from, q, p, line, back)
		}
	}
}

// P15.4: the line, as its number with p's X and Y 1 tells it, goes through both points, and through the sum's opposite, as g2.Add makes it; and so does one on which X does not change.
func TestLineGoesThrough(t *testing.T) {
	random := rand.New(rand.NewSource(161))
	unit := api.G1{X: api.Fp{1}, Y: api.Fp{1}}
	for range 500 {
		from, q, _ := drawnStep(random)
		_, line := miller.Step(from, q, unit)
		for _, on := range []api.G2{from, q, g2.Neg(g2.Add(from, q))} {
			value := fp2.Add(fp2.Mul(line.A.B, on.X), fp2.Mul(line.B.B, on.Y))
			if fp2.Add(line.A.A, value) != (api.Fp2{}) || line.B.B != (api.Fp2{A: api.Fp{1}}) {
				t.Errorf("the line of %v and %v does not go through %v", from, q, on)
			}
		}
		_, line = miller.Step(from, g2.Neg(from), unit)
		if !from.Inf && fp2.Add(line.A.A, fp2.Mul(line.A.B, from.X)) != (api.Fp2{}) {
			t.Errorf("the line of %v and its opposite: %v", from, line)
		}
	}
}

// checkLoop holds an answer of Loop, of points of the curves, to what it must be.
func checkLoop(t *testing.T, p api.G1, q api.G2, want api.Fp12) {
	t.Helper()
	if got, e := miller.Loop(p, q); e != api.OK || got != want {
		t.Errorf("Loop of %v, %v: %v, %v, want %v", p, q, got, e, want)
	}
}

// P15.3: points of the curves, of order r, of small orders and of no small order, with words below p and not: the answer exactly, gone through apart, and by the calls below; also where sums on the way are infinity.
func TestLoop(t *testing.T) {
	met := 0
	for i, b := range onCurve2() {
		a := onCurve1()[(3*i)%len(onCurve1())]
		number, times := loopNumber(a, b)
		want, p, q := number.number(), a.point1(), b.point2()
		met += times
		checkLoop(t, p, q, want)
		checkLoop(t, other1(p, i), q, want)
		checkLoop(t, p, other2(q, i), want)
		checkLoop(t, other1(p, 9), other2(q, 9), want)
		if byCalls := loopByCalls(p, q); byCalls != want {
			t.Errorf("%v, %v: %v, by the calls below %v", p, q, want, byCalls)
		}
	}
	if met == 0 {
		t.Error("no sum on the way is infinity")
	}
}

// P15.3: all points of the base curve with the base, by the calls below.
func TestLoopOfBase(t *testing.T) {
	for i, a := range onCurve1() {
		p := other1(a.point1(), i)
		checkLoop(t, p, g2.Base(), loopByCalls(p, g2.Base()))
	}
}

// P15.3: of order 13 the point is infinity, after the highest four bits, 13: the sum of 12 times it and it.
func TestLoopThroughInfinity(t *testing.T) {
	a, b := base1(), small2()[0]
	if !b.times(big.NewInt(13)).isInfinity() || b.isInfinity() {
		t.Fatal("not of order 13")
	}
	for _, k := range []int64{1, 2, 5, 12} {
		q := b.times(big.NewInt(k))
		number, times := loopNumber(a, q)
		if times == 0 {
			t.Errorf("%d: no sum is infinity", k)
		}
		checkLoop(t, a.point1(), q.point2(), number.number())
	}
}

// P15.3: 1 where one point is infinity, whatever numbers it has, or both are.
func TestLoopOfInfinity(t *testing.T) {
	one := unit().number()
	for i, none := range infinities1() {
		for _, b := range onCurve2() {
			checkLoop(t, none, b.point2(), one)
			checkLoop(t, none, other2(b.point2(), i), one)
		}
		for _, other := range infinities2() {
			checkLoop(t, none, other, one)
		}
	}
	for i, none := range infinities2() {
		for _, a := range onCurve1() {
			checkLoop(t, a.point1(), none, one)
			checkLoop(t, other1(a.point1(), i), none, one)
		}
	}
}

// refused holds an answer to ErrCurve, beside which there is no number.
func refused(t *testing.T, p api.G1, q api.G2) {
	t.Helper()
	if got, e := miller.Loop(p, q); e != api.ErrCurve || int(e) != 120 || got != (api.Fp12{}) {
		t.Errorf("Loop of %v, %v: %v, %v", p, q, got, e)
	}
}

// P15.3: ErrCurve where p, or q, or neither is on its curve, though the other one be infinity.
func TestLoopOffCurve(t *testing.T) {
	for i, p := range offCurve1() {
		refused(t, p, onCurve2()[i%len(onCurve2())].point2())
		refused(t, p, infinities2()[i%len(infinities2())])
		refused(t, p, offCurve2()[i%len(offCurve2())])
	}
	for i, q := range offCurve2() {
		refused(t, onCurve1()[i%len(onCurve1())].point1(), q)
		refused(t, infinities1()[i%len(infinities1())], q)
		refused(t, offCurve1()[i%len(offCurve1())], q)
	}
}

// R5: asked again, after other points, the calls answer the same.
func TestAskedAgain(t *testing.T) {
	answers := func(p api.G1, q api.G2) string {
		f, e := miller.Loop(p, q)
		sum, line := miller.Step(q, g2.Base(), p)
		return fmt.Sprint(f, e, sum, line, miller.Line(q.Y, q, p))
	}
	random := rand.New(rand.NewSource(162))
	for range 40 {
		p, q := any1()[random.Intn(len(any1()))], any2()[random.Intn(len(any2()))]
		first := answers(p, q)
		answers(any1()[random.Intn(len(any1()))], any2()[random.Intn(len(any2()))])
		if again := answers(p, q); again != first {
			t.Errorf("%v, %v: %s, then %s", p, q, first, again)
		}
	}
}

// The chapter's section 'Examples', as it stands there.
func TestChapterExamples(t *testing.T) {
	checkLoop(t, api.G1{Inf: true}, g2.Base(), unit().number())
	refused(t, api.G1{}, g2.Base())
	slope, p, q := api.Fp2{A: api.Fp{1}, B: api.Fp{1}}, g1.Base(), g2.Base()
	line := miller.Line(slope, q, p)
	want := api.Fp12{
		A: api.Fp6{A: fp2.Sub(fp2.Mul(slope, q.X), q.Y), B: fp2.Neg(fp2.Scale(slope, p.X))},
		B: api.Fp6{B: api.Fp2{A: p.Y}},
	}
	if line != want {
		t.Errorf("%v, want %v", line, want)
	}
}
