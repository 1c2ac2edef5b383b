package sub_test

import (
	"fmt"
	"math/big"
	"math/rand"
	"slices"
	"strings"
	"sync"
	"testing"

	"sigil/api"
	"sigil/fp2"
	"sigil/fr"
	"sigil/g1"
	"sigil/g2"
	"sigil/sub"
)

// size is how many words a number has.
const size = 6

// top is a word whose bits are all 1.
const top = 1<<64 - 1

const (
	// primeDigits are p, as chapter 4 writes it.
	primeDigits = "1A0111EA 397FE69A 4B1BA7B6 434BACD7 64774B84 F38512BF 6730D2A0 F6B0F624 1EABFFFE B153FFFF B9FEFFFF FFFFAAAB"
	// orderDigits are r, as chapter 6 writes it.
	orderDigits = "73EDA753 299D7D48 3339D808 09A1D805 53BDA402 FFFE5BFE FFFFFFFF 00000001"
	// rootDigits are 0 - x, betaDigits to backYB the numbers of Phi and Psi, and clearDigits h, as the chapter writes them.
	rootDigits  = "D2010000 00010000"
	betaDigits  = "00000000 00000000 5F19672F DF76CE51 BA69C607 6A0F77EA DDB3A93B E6F89688 DE17D813 620A0002 2E01FFFF FFFEFFFE"
	backXB      = "1A0111EA 397FE699 EC024086 63D4DE85 AA0D857D 89759AD4 897D2965 0FB85F9B 409427EB 4F49FFFD 8BFD0000 0000AAAD"
	backYA      = "135203E6 0180A68E E2E9C448 D77A2CD9 1C3DEDD9 30B1CF60 EF396489 F61EB45E 304466CF 3E67FA0A F1EE7B04 121BDEA2"
	backYB      = "06AF0E04 37FF400B 6831E36D 6BD17FFE 48395DAB C2D3435E 77F76E17 009241C5 EE67992F 72EC05F4 C81084FB EDE3CC09"
	clearDigits = "0BC69F08 F2EE75B3 584C6A0E A91B3528 88E2A8E9 145AD768 9986FF03 1508FFE1 329C2F17 8731DB95 6D82BF01 5D1212B0 2EC0EC69 D7477C1A E954CBC0 6689F6A3 59894C0A DEBBF6B4 E8020005 AAA95551"
	// lowX and lowY are the base curve's base, as chapter 12 writes it, baseXA to baseYB the twisted one's, as chapter 13 does.
	lowX   = "17F1D3A7 3197D794 2695638C 4FA9AC0F C3688C4F 9774B905 A14E3A3F 171BAC58 6C55E83F F97A1AEF FB3AF00A DB22C6BB"
	lowY   = "08B3F481 E3AAA0F1 A09E30ED 741D8AE4 FCF5E095 D5D00AF6 00DB18CB 2C04B3ED D03CC744 A2888AE4 0CAA2329 46C5E7E1"
	baseXA = "024AA2B2 F08F0A91 26080527 2DC51051 C6E47AD4 FA403B02 B4510B64 7AE3D177 0BAC0326 A805BBEF D48056C8 C121BDB8"
	baseXB = "13E02B60 52719F60 7DACD3A0 88274F65 596BD0D0 9920B61A B5DA61BB DC7F5049 334CF112 13945D57 E5AC7D05 5D042B7E"
	baseYA = "0CE5D527 727D6E11 8CC9CDC6 DA2E351A ADFD9BAA 8CBDD3A7 6D429A69 5160D12C 923AC9CC 3BACA289 E1935486 08B82801"
	baseYB = "0606C4A0 2EA734CC 32ACD2B0 2BC28B99 CB3E287E 85A763AF 267492AB 572E99AB 3F370D27 5CEC1DA1 AAA9075F F05F79BE"
)

// written is the number of hexadecimal digits.
func written(digits string) *big.Int {
	a, _ := new(big.Int).SetString(strings.ReplaceAll(digits, " ", ""), 16)
	return a
}

// prime is p.
var prime = sync.OnceValue(func() *big.Int { return written(primeDigits) })

// order is r.
var order = sync.OnceValue(func() *big.Int { return written(orderDigits) })

// root is x, below 0.
func root() *big.Int { return new(big.Int).Neg(written(rootDigits)) }

// rootSquare is x·x.
func rootSquare() *big.Int { return new(big.Int).Mul(root(), root()) }

// clear1 is 1 - x.
func clear1() *big.Int { return new(big.Int).Sub(big.NewInt(1), root()) }

// number is what words mean: each times 2^64's power of its place, added.
func number(words []uint64) *big.Int {
	sum := new(big.Int)
	for _, word := range slices.Backward(words) {
		sum.Lsh(sum, 64)
		sum.Add(sum, new(big.Int).SetUint64(word))
	}
	return sum
}

// words are n words of a number that they hold.
func words(a *big.Int, n int) []uint64 {
	all := make([]uint64, n)
	for i := range all {
		all[i] = new(big.Int).Rsh(a, uint(64*i)).Uint64()
	}
	return all
}

// six are the six words of a number below 2^384.
func six(a *big.Int) api.Fp { return api.Fp(words(a, size)) }

// near is so many times p, and a bit more or less.
func near(times, more int64) api.Fp {
	a := new(big.Int).Mul(prime(), big.NewInt(times))
	return six(a.Add(a, big.NewInt(more)))
}

// edges are the parts that the chapter's edges are made of: 0, 1, 2 and p - 1, p and more, multiples of p, six words all 2^64 - 1.
func edges() []api.Fp {
	all := api.Fp{top, top, top, top, top, top}
	return []api.Fp{{}, {1}, {2}, near(1, -2), near(1, -1), near(1, 0), near(1, 1), near(1, 2), near(2, 0), near(9, -1), near(9, 0), near(9, 2), all}
}

// drawn are six words, many of which lie at the edges of a word.
func drawn(random *rand.Rand) api.Fp {
	var all api.Fp
	for i := range all {
		switch random.Intn(8) {
		case 0:
			all[i] = 0
		case 1:
			all[i] = top
		default:
			all[i] = random.Uint64()
		}
	}
	return all
}

// more is a number with so many times p on it, as often as six words hold it.
func more(a api.Fp, times int64) api.Fp {
	sum := new(big.Int).Mul(prime(), big.NewInt(times))
	sum.Add(sum, number(a[:]))
	if sum.BitLen() > 64*size {
		return more(a, times-1)
	}
	return six(sum)
}

// parts1 are the places of a point's numbers.
func parts1(p *api.G1) []*api.Fp { return []*api.Fp{&p.X, &p.Y} }

// parts2 are the places of a point's numbers.
func parts2(p *api.G2) []*api.Fp { return []*api.Fp{&p.X.A, &p.X.B, &p.Y.A, &p.Y.B} }

// of is the point of four parts.
func of(xA, xB, yA, yB api.Fp) api.G2 {
	return api.G2{X: api.Fp2{A: xA, B: xB}, Y: api.Fp2{A: yA, B: yB}}
}

// pair is A + B·u of the library's numbers, below p; those of the base curve have no B.
type pair struct{ a, b *big.Int }

// left is what is left of a number modulo p.
func left(a *big.Int) *big.Int { return new(big.Int).Mod(a, prime()) }

// whole is the pair of small numbers.
func whole(a, b int64) pair { return pair{left(big.NewInt(a)), left(big.NewInt(b))} }

// single is a number without B.
func single(a *big.Int) pair { return pair{left(a), new(big.Int)} }

// paired is a number as the library's.
func paired(c api.Fp2) pair { return pair{left(number(c.A[:])), left(number(c.B[:]))} }

// number is the number that is meant.
func (c pair) number() api.Fp2 { return api.Fp2{A: six(c.a), B: six(c.b)} }

// isZero tells whether a number is 0.
func (c pair) isZero() bool { return c.a.Sign() == 0 && c.b.Sign() == 0 }

// plus is a sum.
func (c pair) plus(d pair) pair {
	return pair{left(new(big.Int).Add(c.a, d.a)), left(new(big.Int).Add(c.b, d.b))}
}

// minus is a difference.
func (c pair) minus(d pair) pair {
	return pair{left(new(big.Int).Sub(c.a, d.a)), left(new(big.Int).Sub(c.b, d.b))}
}

// conjugate is a number with the opposite of its B.
func (c pair) conjugate() pair { return pair{c.a, left(new(big.Int).Neg(c.b))} }

// times is a product, of four.
func (c pair) times(d pair) pair {
	product := func(e, f *big.Int) *big.Int { return new(big.Int).Mul(e, f) }
	a := product(c.a, d.a)
	b := product(c.a, d.b)
	return pair{left(a.Sub(a, product(c.b, d.b))), left(b.Add(b, product(c.b, d.a)))}
}

// norm is a number times its conjugate.
func (c pair) norm() *big.Int { return c.times(c.conjugate()).a }

// inverse is the inverse of a number that is not 0.
func (c pair) inverse() pair {
	return single(new(big.Int).ModInverse(c.norm(), prime())).times(c.conjugate())
}

// power is a number's power, bit by bit.
func (c pair) power(k *big.Int) pair {
	product := whole(1, 0)
	for bit := k.BitLen() - 1; bit >= 0; bit-- {
		product = product.times(product)
		if k.Bit(bit) == 1 {
			product = product.times(c)
		}
	}
	return product
}

// singleRoot is a square root, if there is one, of a number without B that has none with B alone.
func (c pair) singleRoot() (pair, bool) {
	a := new(big.Int).ModSqrt(c.a, prime())
	if a == nil {
		return pair{}, false
	}
	return single(a), true
}

// root is a square root, if there is one, of a number with a B that is not 0.
func (c pair) root() (pair, bool) {
	norm := new(big.Int).ModSqrt(c.norm(), prime())
	if norm == nil {
		return pair{}, false
	}
	half := new(big.Int).ModInverse(big.NewInt(2), prime())
	for _, sign := range []int64{1, -1} {
		square := new(big.Int).Mul(big.NewInt(sign), norm)
		square = left(square.Mul(square.Add(square, c.a), half))
		if a := new(big.Int).ModSqrt(square, prime()); a != nil && a.Sign() != 0 {
			b := new(big.Int).ModInverse(left(new(big.Int).Add(a, a)), prime())
			return pair{a, left(b.Mul(b, c.b))}, true
		}
	}
	return pair{}, false
}

// place is a point of the library's numbers, of either curve; without numbers it is infinity.
type place struct{ x, y pair }

// isInfinity tells whether a point is the one at infinity.
func (a place) isInfinity() bool { return a.x.a == nil }

// placed1 is a point of the base curve as the library's numbers.
func placed1(p api.G1) place {
	if p.Inf {
		return place{}
	}
	return place{single(number(p.X[:])), single(number(p.Y[:]))}
}

// placed2 is a point of the twisted curve as the library's numbers.
func placed2(p api.G2) place {
	if p.Inf {
		return place{}
	}
	return place{paired(p.X), paired(p.Y)}
}

// point1 is the point of the base curve that is to be answered for it.
func (a place) point1() api.G1 {
	if a.isInfinity() {
		return api.G1{Inf: true}
	}
	return api.G1{X: six(a.x.a), Y: six(a.y.a)}
}

// point2 is the point of the twisted curve that is to be answered for it.
func (a place) point2() api.G2 {
	if a.isInfinity() {
		return api.G2{Inf: true}
	}
	return api.G2{X: a.x.number(), Y: a.y.number()}
}

// constants are what is added to X's cube: the base curve's, the twisted one's.
func constant1() pair { return whole(4, 0) }
func constant2() pair { return whole(4, 4) }

// right is the right side of a curve's equation.
func right(x, constant pair) pair { return x.times(x).times(x).plus(constant) }

// isOn is what a curve's equation says.
func (a place) isOn(constant pair) bool {
	return a.isInfinity() || right(a.x, constant).minus(a.y.times(a.y)).isZero()
}

// slope is the slope of the line through both, or of the one at both, and whether there is one.
func (a place) slope(b place) (pair, bool) {
	above, below := b.y.minus(a.y), b.x.minus(a.x)
	if below.isZero() {
		if !above.isZero() || a.y.isZero() {
			return pair{}, false
		}
		above, below = whole(3, 0).times(a.x).times(a.x), a.y.plus(a.y)
	}
	return above.times(below.inverse()), true
}

// plus is a sum of points.
func (a place) plus(b place) place {
	if a.isInfinity() {
		return b
	}
	if b.isInfinity() {
		return a
	}
	slope, is := a.slope(b)
	if !is {
		return place{}
	}
	x := slope.times(slope).minus(a.x).minus(b.x)
	return place{x, slope.times(a.x.minus(x)).minus(a.y)}
}

// opposite is a point's.
func (a place) opposite() place {
	if a.isInfinity() {
		return a
	}
	return place{a.x, whole(0, 0).minus(a.y)}
}

// times is a point so many times added, bit by bit; below 0, its opposite.
func (a place) times(k *big.Int) place {
	if k.Sign() < 0 {
		return a.opposite().times(new(big.Int).Neg(k))
	}
	var sum place
	for bit := k.BitLen() - 1; bit >= 0; bit-- {
		sum = sum.plus(sum)
		if k.Bit(bit) == 1 {
			sum = sum.plus(a)
		}
	}
	return sum
}

// isOfOrder is what P14.1 asks.
func (a place) isOfOrder(constant pair) bool {
	return a.isOn(constant) && a.times(order()).isInfinity()
}

// scaled is the point with X c·c times and Y c·c·c times: of another curve, but sums go there alike.
func (a place) scaled(c pair) place {
	square := c.times(c)
	return place{a.x.times(square), a.y.times(square).times(c)}
}

// phi is P14.2's image of the base curve.
func (a place) phi() place {
	if a.isInfinity() {
		return a
	}
	return place{a.x.times(single(written(betaDigits))), a.y}
}

// psi is P14.2's image of the twisted curve.
func (a place) psi() place {
	if a.isInfinity() {
		return a
	}
	backX, backY := pair{new(big.Int), written(backXB)}, pair{written(backYA), written(backYB)}
	return place{a.x.conjugate().times(backX), a.y.conjugate().times(backY)}
}

// base1 is the base curve's base.
func base1() place { return place{single(written(lowX)), single(written(lowY))} }

// base2 is the twisted curve's base.
func base2() place {
	return place{pair{written(baseXA), written(baseXB)}, pair{written(baseYA), written(baseYB)}}
}

// lifted1 is the first point of the base curve with an X at least this.
func lifted1(from *big.Int) place {
	for x := single(from); ; x = x.plus(whole(1, 0)) {
		if y, is := right(x, constant1()).singleRoot(); is {
			return place{x, y}
		}
	}
}

// lifted2 is the first point of the twisted curve with this A of X, and the B of X at least b.
func lifted2(a, b *big.Int) place {
	for x := (pair{left(a), left(b)}); ; x = x.plus(whole(0, 1)) {
		if y, is := right(x, constant2()).root(); is {
			return place{x, y}
		}
	}
}

// rest1 is how many points the base curve has, through r.
func rest1() *big.Int {
	square := new(big.Int).Mul(clear1(), clear1())
	return square.Div(square, big.NewInt(3))
}

// rest2 is how many points the twisted curve has, through r: the ninth part of a polynomial of x.
func rest2() *big.Int {
	sum := new(big.Int)
	for _, factor := range []int64{1, -4, 5, 0, -4, 6, -4, -4, 13} {
		sum.Mul(sum, root())
		sum.Add(sum, big.NewInt(factor))
	}
	return sum.Div(sum, big.NewInt(9))
}

// ofOrder is a point whose order is that small prime; lifted makes points, of which the curve has rest times r.
func ofOrder(n int64, rest *big.Int, lifted func(from int64) place) place {
	prime := big.NewInt(n)
	cofactor := new(big.Int).Mul(rest, order())
	for left := new(big.Int); new(big.Int).Mod(cofactor, prime).Sign() == 0; {
		cofactor.DivMod(cofactor, prime, left)
	}
	for from := int64(1); ; from++ {
		p := lifted(from).times(cofactor)
		for next := p.times(prime); !next.isInfinity(); next = p.times(prime) {
			p = next
		}
		if !p.isInfinity() {
			return p
		}
	}
}

// small1 are points of the base curve of all its small orders.
var small1 = sync.OnceValue(func() []place {
	var all []place
	for _, n := range []int64{3, 11, 10177, 859267, 52437899} {
		all = append(all, ofOrder(n, rest1(), func(from int64) place { return lifted1(big.NewInt(from)) }))
	}
	return all
})

// small2 are points of the twisted curve of all its small orders.
var small2 = sync.OnceValue(func() []place {
	var all []place
	for _, n := range []int64{13, 23, 2713, 11953, 262069} {
		all = append(all, ofOrder(n, rest2(), func(from int64) place { return lifted2(big.NewInt(from), big.NewInt(from)) }))
	}
	return all
})

// ofOrderR are points of order r: infinity, multiples of the base, and opposites.
func ofOrderR(base place) []place {
	all := []place{{}}
	random := rand.New(rand.NewSource(50))
	for _, k := range []*big.Int{big.NewInt(1), big.NewInt(2), big.NewInt(3), big.NewInt(7), written(rootDigits), rootSquare(), new(big.Int).Sub(order(), big.NewInt(1)), new(big.Int).Rand(random, order()), new(big.Int).Rand(random, order())} {
		p := base.times(k)
		all = append(all, p, p.opposite(), p.plus(base))
	}
	return all
}

// sums are points of small orders, their opposites and sums, and those with points of order r.
func sums(base place, small []place) []place {
	var all []place
	for i, p := range small {
		next := small[(i+1)%len(small)]
		all = append(all, p, p.opposite(), p.times(big.NewInt(2)), p.plus(next), p.plus(base), p.plus(next).plus(base.times(big.NewInt(5))), base.opposite().plus(p))
	}
	return all
}

// onCurve1 are points of the base curve, of order r and not.
var onCurve1 = sync.OnceValue(func() []place {
	all := append(ofOrderR(base1()), sums(base1(), small1())...)
	random := rand.New(rand.NewSource(51))
	for i := range 8 {
		p := lifted1(new(big.Int).Rand(random, prime()))
		all = append(all, p, p.times(order()), lifted1(big.NewInt(int64(i))))
	}
	return all
})

// onCurve2 are points of the twisted curve, of order r and not.
var onCurve2 = sync.OnceValue(func() []place {
	all := append(ofOrderR(base2()), sums(base2(), small2())...)
	random := rand.New(rand.NewSource(52))
	for i := range 8 {
		p := lifted2(new(big.Int).Rand(random, prime()), new(big.Int).Rand(random, prime()))
		all = append(all, p, p.times(order()), lifted2(big.NewInt(int64(i)), new(big.Int)))
	}
	return all
})

// other1 is a point with other words for its numbers.
func other1(p api.G1, times int) api.G1 {
	for i, part := range parts1(&p) {
		*part = more(*part, int64((times+4*i)%10))
	}
	return p
}

// other2 is a point with other words for its numbers.
func other2(p api.G2, times int) api.G2 {
	for i, part := range parts2(&p) {
		*part = more(*part, int64((times+3*i)%10))
	}
	return p
}

// variants1 are the points of the base curve, with words below p and not, and infinity with any numbers.
var variants1 = sync.OnceValue(func() []api.G1 {
	var all []api.G1
	for i, a := range onCurve1() {
		p := a.point1()
		all = append(all, p, other1(p, i), other1(p, 9))
	}
	base := base1().point1()
	for i, edge := range edges() {
		all = append(all, api.G1{X: edge, Inf: true}, api.G1{Y: edge, Inf: true}, api.G1{X: edge, Y: edges()[i/2], Inf: true})
	}
	return append(all, api.G1{X: base.X, Y: base.Y, Inf: true}, api.G1{X: base.X, Inf: true})
})

// variants2 are the points of the twisted curve, with words below p and not, and infinity with any numbers.
var variants2 = sync.OnceValue(func() []api.G2 {
	var all []api.G2
	for i, a := range onCurve2() {
		p := a.point2()
		all = append(all, p, other2(p, i), other2(p, 9))
	}
	base := base2().point2()
	for i, edge := range edges() {
		for j := range 4 {
			p := api.G2{Inf: true}
			*parts2(&p)[j] = edge
			all = append(all, p)
		}
		all = append(all, api.G2{X: api.Fp2{A: edge, B: edge}, Y: api.Fp2{A: edge, B: edges()[i/2]}, Inf: true})
	}
	return append(all, api.G2{X: base.X, Y: base.Y, Inf: true}, api.G2{X: base.X, Inf: true})
})

// offCurve1 are points that are not on the base curve: X and Y 0, of any edges, of one point's X and another's Y, and those of other curves where sums go alike.
var offCurve1 = sync.OnceValue(func() []api.G1 {
	var all []api.G1
	for _, x := range edges() {
		for _, y := range edges() {
			all = append(all, api.G1{X: x, Y: y})
		}
	}
	for i, a := range onCurve1() {
		if a.isInfinity() {
			continue
		}
		p := a.point1()
		all = append(all, api.G1{X: p.X}, api.G1{Y: p.Y}, api.G1{X: p.Y, Y: p.X}, api.G1{X: p.X, Y: onCurve1()[1+i/2].point1().Y}, api.G1{X: onCurve1()[1+i/2].point1().X, Y: p.Y})
		all = append(all, a.scaled(whole(2, 0)).point1(), a.scaled(whole(-3, 0)).point1(), other1(a.scaled(whole(5, 0)).point1(), i))
		for j := range 2 {
			q := p
			parts1(&q)[j][i%size] ^= 1 << (i % 64)
			all = append(all, q)
		}
		edge := edges()[i%len(edges())]
		all = append(all, api.G1{X: edge, Y: p.Y}, api.G1{X: p.X, Y: edge})
	}
	random := rand.New(rand.NewSource(53))
	for range 20 {
		all = append(all, api.G1{X: drawn(random), Y: drawn(random)})
	}
	return slices.DeleteFunc(all, func(p api.G1) bool { return placed1(p).isOn(constant1()) })
})

// offCurve2 are points that are not on the twisted curve: X and Y 0, of any edges, of one point's X and another's Y, conjugates, those of the base curve, and those of other curves where sums go alike.
var offCurve2 = sync.OnceValue(func() []api.G2 {
	var all []api.G2
	for _, a := range edges() {
		for _, b := range edges() {
			all = append(all, of(a, b, api.Fp{}, api.Fp{}), of(a, api.Fp{}, b, api.Fp{}), of(a, api.Fp{}, api.Fp{}, b), of(api.Fp{}, a, b, api.Fp{}), of(api.Fp{}, a, api.Fp{}, b), of(a, b, b, a))
		}
	}
	for _, a := range onCurve1()[1:20] {
		all = append(all, a.point2())
	}
	for i, a := range onCurve2() {
		if a.isInfinity() {
			continue
		}
		p := a.point2()
		all = append(all, api.G2{X: p.X}, api.G2{Y: p.Y}, api.G2{X: p.Y, Y: p.X}, api.G2{X: p.X, Y: onCurve2()[1+i/2].point2().Y}, api.G2{X: onCurve2()[1+i/2].point2().X, Y: p.Y})
		all = append(all, place{a.x.conjugate(), a.y.conjugate()}.point2(), place{a.x, a.y.conjugate()}.point2(), place{a.x.conjugate(), a.y}.point2())
		all = append(all, a.scaled(whole(2, 0)).point2(), a.scaled(whole(1, 1)).point2(), other2(a.scaled(whole(3, 5)).point2(), i))
		for j := range 4 {
			q := p
			parts2(&q)[j][i%size] ^= 1 << (i % 64)
			all = append(all, q)
			*parts2(&q)[j] = edges()[i%len(edges())]
			all = append(all, q)
		}
	}
	random := rand.New(rand.NewSource(54))
	for range 20 {
		all = append(all, of(drawn(random), drawn(random), drawn(random), drawn(random)))
	}
	return slices.DeleteFunc(all, func(p api.G2) bool { return placed2(p).isOn(constant2()) })
})

// P14.1: multiples, sums and opposites of the base, whatever their words, and infinity, whatever X and Y it has, are of order r.
func TestInOfOrderR(t *testing.T) {
	for i, a := range ofOrderR(base1()) {
		for _, p := range []api.G1{a.point1(), other1(a.point1(), 1), other1(a.point1(), i), other1(a.point1(), 9)} {
			if !sub.In1(p) {
				t.Errorf("In1 of %v: false", p)
			}
		}
	}
	for i, a := range ofOrderR(base2()) {
		for _, p := range []api.G2{a.point2(), other2(a.point2(), 1), other2(a.point2(), i), other2(a.point2(), 9)} {
			if !sub.In2(p) {
				t.Errorf("In2 of %v: false", p)
			}
		}
	}
	for _, p := range variants1() {
		if p.Inf && !sub.In1(p) {
			t.Errorf("In1 of %v: false", p)
		}
	}
	for _, p := range variants2() {
		if p.Inf && !sub.In2(p) {
			t.Errorf("In2 of %v: false", p)
		}
	}
}

// P14.1: points of the curves, of small orders, sums of those and of points of order r, and any ones, are of order r just if r times they are infinity.
func TestInOnCurve(t *testing.T) {
	in := 0
	for i, a := range onCurve1() {
		want := a.isOfOrder(constant1())
		if want {
			in++
		}
		for _, p := range []api.G1{a.point1(), other1(a.point1(), 1+i%9)} {
			if got := sub.In1(p); got != want {
				t.Errorf("In1 of %v: %v", p, got)
			}
		}
	}
	for i, a := range onCurve2() {
		want := a.isOfOrder(constant2())
		if want {
			in++
		}
		for _, p := range []api.G2{a.point2(), other2(a.point2(), 1+i%9)} {
			if got := sub.In2(p); got != want {
				t.Errorf("In2 of %v: %v", p, got)
			}
		}
	}
	if in != len(ofOrderR(base1()))+len(ofOrderR(base2())) {
		t.Errorf("%d points are of order r", in)
	}
}

// P14.1: no point off its curve is of order r, though r times it, as sums go, be infinity.
func TestInOffCurve(t *testing.T) {
	for _, p := range offCurve1() {
		if sub.In1(p) {
			t.Errorf("In1 of %v: true", p)
		}
	}
	for _, p := range offCurve2() {
		if sub.In2(p) {
			t.Errorf("In2 of %v: true", p)
		}
	}
	if !base1().scaled(whole(2, 0)).times(order()).isInfinity() || !base2().scaled(whole(1, 1)).times(order()).isInfinity() {
		t.Error("no point off its curve is infinity, taken r times")
	}
}

// P14.1: what the promise says, asked of the calls below: r times.
func TestInAsTheCallsBelowSay(t *testing.T) {
	r := fr.R()
	for _, p := range variants1() {
		if q, e := g1.Mul(r[:], p); sub.In1(p) != (e == api.OK && q.Inf) {
			t.Errorf("In1 of %v: %v", p, sub.In1(p))
		}
	}
	for _, p := range variants2() {
		if q, e := g2.Mul(r[:], p); sub.In2(p) != (e == api.OK && q.Inf) {
			t.Errorf("In2 of %v: %v", p, sub.In2(p))
		}
	}
}

// P14.1: what makes Phi and Psi tell the order: r is x·x·x·x - x·x + 1, and p - x is r times a number that has no divisor in common with the number of the twisted curve's points through r; and on the curves Phi twice, Phi and the point, and Psi twice, p times the point and -(x + 1) times Psi, are infinity.
func TestOrdersByImages(t *testing.T) {
	one := big.NewInt(1)
	r := new(big.Int).Mul(rootSquare(), rootSquare())
	if r.Add(r.Sub(r, rootSquare()), one).Cmp(order()) != 0 {
		t.Errorf("%X", r)
	}
	if product := new(big.Int).Mul(rest1(), order()); product.Cmp(new(big.Int).Sub(prime(), root())) != 0 || new(big.Int).GCD(nil, nil, rest1(), rest2()).Cmp(one) != 0 || new(big.Int).GCD(nil, nil, order(), rest2()).Cmp(one) != 0 {
		t.Errorf("%X, %X", rest1(), rest2())
	}
	for i, a := range onCurve1() {
		p := other1(a.point1(), i)
		if sum := g1.Add(g1.Add(p, sub.Phi(p)), sub.Phi(sub.Phi(p))); !sum.Inf {
			t.Errorf("%v: %v", p, sum)
		}
	}
	for i, a := range onCurve2() {
		p := other2(a.point2(), i)
		all, e := g2.Mul(words(prime(), size), p)
		trace, f := g2.Mul(words(new(big.Int).Sub(new(big.Int).Neg(root()), one), 1), sub.Psi(p))
		if sum := g2.Add(g2.Add(all, trace), sub.Psi(sub.Psi(p))); !sum.Inf || e != api.OK || f != api.OK {
			t.Errorf("%v: %v, %v, %v", p, sum, e, f)
		}
	}
}

// P14.2: Phi of points on the curve and off it, of any words, and of infinity with any numbers, against the chapter's digits.
func TestPhi(t *testing.T) {
	for _, p := range append(slices.Clone(variants1()), offCurve1()...) {
		if got, want := sub.Phi(p), placed1(p).phi().point1(); got != want {
			t.Errorf("Phi of %v: %v, want %v", p, got, want)
		}
	}
	for _, x := range edges() {
		for _, y := range edges() {
			p := api.G1{X: x, Y: y}
			if got, want := sub.Phi(p), placed1(p).phi().point1(); got != want {
				t.Errorf("Phi of %v: %v, want %v", p, got, want)
			}
		}
	}
	for i, c := range []struct{ p, image api.G1 }{
		{api.G1{X: api.Fp{1}, Y: api.Fp{7}}, api.G1{X: six(written(betaDigits)), Y: api.Fp{7}}},
		{api.G1{X: near(1, 1), Y: near(1, 0)}, api.G1{X: six(written(betaDigits))}},
		{api.G1{}, api.G1{}},
		{api.G1{X: api.Fp{1}, Y: api.Fp{7}, Inf: true}, api.G1{Inf: true}},
	} {
		if got := sub.Phi(c.p); got != c.image {
			t.Errorf("%d: %v", i, got)
		}
	}
}

// P14.2: Psi of points on the curve and off it, of any words in each part, and of infinity with any numbers, against the chapter's digits.
func TestPsi(t *testing.T) {
	all := append(slices.Clone(variants2()), offCurve2()...)
	for j := range 4 {
		for _, edge := range edges() {
			p := of(api.Fp{3}, api.Fp{5}, api.Fp{7}, api.Fp{11})
			*parts2(&p)[j] = edge
			all = append(all, p)
		}
	}
	for _, p := range all {
		if got, want := sub.Psi(p), placed2(p).psi().point2(); got != want {
			t.Errorf("Psi of %v: %v, want %v", p, got, want)
		}
	}
	xB, yA, yB := six(written(backXB)), six(written(backYA)), six(written(backYB))
	opposite := six(new(big.Int).Sub(prime(), written(backYA)))
	for i, c := range []struct{ p, image api.G2 }{
		{of(api.Fp{1}, api.Fp{}, api.Fp{1}, api.Fp{}), of(api.Fp{}, xB, yA, yB)},
		{of(api.Fp{}, near(1, 1), near(2, 0), api.Fp{1}), of(xB, api.Fp{}, yB, opposite)},
		{api.G2{}, api.G2{}},
		{api.G2{X: api.Fp2{A: api.Fp{1}}, Y: api.Fp2{B: api.Fp{7}}, Inf: true}, api.G2{Inf: true}},
	} {
		if got := sub.Psi(c.p); got != c.image {
			t.Errorf("%d: %v", i, got)
		}
	}
}

// P14.2: the number of Phi is one whose cube is 1, but not itself; those of Psi are the inverses of 1 + u's powers of (p - 1) / 3 and (p - 1) / 2, reckoned bit by bit, and by fp2.
func TestNumbersOfImages(t *testing.T) {
	beta := single(written(betaDigits))
	if beta.power(big.NewInt(3)).number() != whole(1, 0).number() || beta.number() == whole(1, 0).number() {
		t.Errorf("%X", beta.a)
	}
	image := sub.Psi(of(api.Fp{1}, api.Fp{}, api.Fp{1}, api.Fp{}))
	less := new(big.Int).Sub(prime(), big.NewInt(1))
	for n, number := range map[int64]api.Fp2{3: image.X, 2: image.Y} {
		exponent := new(big.Int).Div(less, big.NewInt(n))
		if want := whole(1, 1).power(exponent).inverse().number(); number != want {
			t.Errorf("(p - 1) / %d: %v, want %v", n, number, want)
		}
		if want := fp2.Inv(fp2.Pow(api.Fp2{A: api.Fp{1}, B: api.Fp{1}}, words(exponent, size))); number != want {
			t.Errorf("(p - 1) / %d: %v, want %v, by fp2", n, number, want)
		}
	}
}

// P14.2: Phi three times is the point again, on the curve or off it; images of points of a curve are points of it, and images of sums the sums.
func TestImagesOfSums(t *testing.T) {
	for _, p := range append(slices.Clone(variants1()), offCurve1()...) {
		if got := sub.Phi(sub.Phi(sub.Phi(p))); got != g1.Reduce(p) {
			t.Errorf("Phi three times of %v: %v", p, got)
		}
	}
	random := rand.New(rand.NewSource(55))
	for range 1000 {
		p, q := variants1()[random.Intn(len(variants1()))], variants1()[random.Intn(len(variants1()))]
		if sub.Phi(g1.Add(p, q)) != g1.Add(sub.Phi(p), sub.Phi(q)) || sub.Phi(g1.Neg(p)) != g1.Neg(sub.Phi(p)) || !g1.On(sub.Phi(p)) {
			t.Errorf("Phi of %v and %v", p, q)
		}
		s, u := variants2()[random.Intn(len(variants2()))], variants2()[random.Intn(len(variants2()))]
		if sub.Psi(g2.Add(s, u)) != g2.Add(sub.Psi(s), sub.Psi(u)) || sub.Psi(g2.Neg(s)) != g2.Neg(sub.Psi(s)) || !g2.On(sub.Psi(s)) {
			t.Errorf("Psi of %v and %v", s, u)
		}
	}
}

// P14.3, P14.4: Clear1 of points of the curve, of order r and not, is 1 - x times the point, added up apart, and of order r.
func TestClear1(t *testing.T) {
	for i, a := range onCurve1() {
		want := a.times(clear1())
		if !want.isOfOrder(constant1()) {
			t.Errorf("%v is not cleared", a.point1())
		}
		for _, p := range []api.G1{a.point1(), other1(a.point1(), 1+i%9)} {
			got, e := sub.Clear1(p)
			if e != api.OK || got != want.point1() || !sub.In1(got) {
				t.Errorf("Clear1 of %v: %v, %v, want %v", p, got, e, want.point1())
			}
		}
	}
	for _, p := range variants1() {
		if got, e := sub.Clear1(p); p.Inf && (got != api.G1{Inf: true} || e != api.OK) {
			t.Errorf("Clear1 of %v: %v, %v", p, got, e)
		}
	}
	for _, a := range small1() {
		if got, e := sub.Clear1(a.point1()); !got.Inf || e != api.OK {
			t.Errorf("Clear1 of %v: %v, %v", a.point1(), got, e)
		}
	}
}

// P14.3, P14.4: Clear2 of points of the curve, of order r and not, is h times the point, added up apart, and of order r.
func TestClear2(t *testing.T) {
	for i, a := range onCurve2() {
		want := a.times(written(clearDigits))
		if !want.isOfOrder(constant2()) {
			t.Errorf("%v is not cleared", a.point2())
		}
		for _, p := range []api.G2{a.point2(), other2(a.point2(), 1+i%9)} {
			got, e := sub.Clear2(p)
			if e != api.OK || got != want.point2() || !sub.In2(got) {
				t.Errorf("Clear2 of %v: %v, %v, want %v", p, got, e, want.point2())
			}
		}
	}
	for _, p := range variants2() {
		if got, e := sub.Clear2(p); p.Inf && (got != api.G2{Inf: true} || e != api.OK) {
			t.Errorf("Clear2 of %v: %v, %v", p, got, e)
		}
	}
	for _, a := range small2() {
		if got, e := sub.Clear2(a.point2()); !got.Inf || e != api.OK {
			t.Errorf("Clear2 of %v: %v, %v", a.point2(), got, e)
		}
	}
}

// P14.3: 1 - x and h times the bases, by sums of their multiples by the calls below; h is 3·(x·x - 1) times the number of the curve's points through r.
func TestClearOfBases(t *testing.T) {
	want1, _ := g1.Mul(words(written(rootDigits), 1), g1.Base())
	if got, e := sub.Clear1(g1.Base()); got != g1.Add(want1, g1.Base()) || e != api.OK {
		t.Errorf("%v, %v", got, e)
	}
	h := new(big.Int).Sub(rootSquare(), big.NewInt(1))
	h.Mul(h.Mul(h, big.NewInt(3)), rest2())
	if h.Cmp(written(clearDigits)) != 0 {
		t.Errorf("%X", h)
	}
	want2, _ := g2.Mul(words(h.Mod(h, order()), 4), g2.Base())
	if got, e := sub.Clear2(g2.Base()); got != want2 || e != api.OK {
		t.Errorf("%v, %v", got, e)
	}
}

// P14.3: ErrCurve off the curve, beside no point.
func TestClearOffCurve(t *testing.T) {
	for _, p := range offCurve1() {
		if got, e := sub.Clear1(p); e != api.ErrCurve || int(e) != 120 || got != (api.G1{}) {
			t.Errorf("Clear1 of %v: %v, %v", p, got, e)
		}
	}
	for _, p := range offCurve2() {
		if got, e := sub.Clear2(p); e != api.ErrCurve || int(e) != 120 || got != (api.G2{}) {
			t.Errorf("Clear2 of %v: %v, %v", p, got, e)
		}
	}
}

// P14.4: of points of order r Phi is -x·x times the point, Psi x times, added up apart, and by the calls below.
func TestImagesOfOrderR(t *testing.T) {
	for i, a := range ofOrderR(base1()) {
		p := other1(a.point1(), i)
		times, e := g1.Mul(words(rootSquare(), 2), p)
		if got := sub.Phi(p); got != a.times(new(big.Int).Neg(rootSquare())).point1() || got != g1.Neg(times) || e != api.OK {
			t.Errorf("Phi of %v: %v", p, got)
		}
	}
	for i, a := range ofOrderR(base2()) {
		p := other2(a.point2(), i)
		times, e := g2.Mul(words(written(rootDigits), 1), p)
		if got := sub.Psi(p); got != a.times(root()).point2() || got != g2.Neg(times) || e != api.OK {
			t.Errorf("Psi of %v: %v", p, got)
		}
	}
}

// R5: asked again, after other points, and with other words for the same numbers, the calls answer the same.
func TestAskedAgain(t *testing.T) {
	answers1 := func(p api.G1) string {
		cleared, e := sub.Clear1(p)
		return fmt.Sprint(sub.In1(p), sub.Phi(p), cleared, e)
	}
	answers2 := func(p api.G2) string {
		cleared, e := sub.Clear2(p)
		return fmt.Sprint(sub.In2(p), sub.Psi(p), cleared, e)
	}
	all1 := append(slices.Clone(variants1()), offCurve1()[:40]...)
	all2 := append(slices.Clone(variants2()), offCurve2()[:40]...)
	random := rand.New(rand.NewSource(56))
	for i := range 60 {
		p, q := all1[random.Intn(len(all1))], all2[random.Intn(len(all2))]
		first1, first2 := answers1(p), answers2(q)
		answers1(all1[i])
		answers2(all2[i])
		if again := answers1(p); again != first1 || answers1(other1(g1.Reduce(p), i)) != first1 {
			t.Errorf("%v: %s, then %s", p, first1, again)
		}
		if again := answers2(q); again != first2 || answers2(other2(g2.Reduce(q), i)) != first2 {
			t.Errorf("%v: %s, then %s", q, first2, again)
		}
	}
}

// The chapter's section 'Examples', as it stands there.
func TestChapterExamples(t *testing.T) {
	for i, c := range []struct {
		p  api.G1
		is bool
	}{{g1.Base(), true}, {api.G1{Inf: true}, true}, {api.G1{}, false}} {
		if got := sub.In1(c.p); got != c.is {
			t.Errorf("%d: %v", i, got)
		}
	}
	times, e := g2.Mul(words(written(rootDigits), 1), g2.Base())
	if got := sub.Psi(g2.Base()); got != g2.Neg(times) || e != api.OK {
		t.Errorf("%v", got)
	}
	if got, e := sub.Clear2(api.G2{}); got != (api.G2{}) || e != api.ErrCurve {
		t.Errorf("%v, %v", got, e)
	}
}
