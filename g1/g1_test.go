package g1_test

import (
	"math/big"
	"math/rand"
	"slices"
	"strings"
	"sync"
	"testing"

	"sigil/api"
	"sigil/g1"
)

// size is how many words a number has.
const size = 6

// top is a word whose bits are all 1.
const top = 1<<64 - 1

const (
	// primeDigits are p, as chapter 4 writes it.
	primeDigits = "1A0111EA 397FE69A 4B1BA7B6 434BACD7 64774B84 F38512BF 6730D2A0 F6B0F624 1EABFFFE B153FFFF B9FEFFFF FFFFAAAB"
	// orderDigits are r, as chapter 6 writes it.
	orderDigits = "73EDA753 299D7D48 3339D808 09A1D805 53BDA402 FFFE5BFE FFFFFFFF 00000001"
	// baseX and baseY are the base's, as the chapter writes them.
	baseX = "17F1D3A7 3197D794 2695638C 4FA9AC0F C3688C4F 9774B905 A14E3A3F 171BAC58 6C55E83F F97A1AEF FB3AF00A DB22C6BB"
	baseY = "08B3F481 E3AAA0F1 A09E30ED 741D8AE4 FCF5E095 D5D00AF6 00DB18CB 2C04B3ED D03CC744 A2888AE4 0CAA2329 46C5E7E1"
)

// written is the number of hexadecimal digits.
func written(digits string) *big.Int {
	a, _ := new(big.Int).SetString(strings.ReplaceAll(digits, " ", ""), 16)
	return a
}

// prime is p.
var prime = sync.OnceValue(func() *big.Int { return written(primeDigits) })

// order is r.
var order = sync.OnceValue(func() *big.Int { return written(orderDigits) })

// number is what words mean: each times 2^64's power of its place, added.
func number(words []uint64) *big.Int {
	sum := new(big.Int)
	for _, word := range slices.Backward(words) {
		sum.Lsh(sum, 64)
		sum.Add(sum, new(big.Int).SetUint64(word))
	}
	return sum
}

// words are n words of a number that they hold.
func words(a *big.Int, n int) []uint64 {
	all := make([]uint64, n)
	for i := range all {
		all[i] = new(big.Int).Rsh(a, uint(64*i)).Uint64()
	}
	return all
}

// six are the six words of a number below 2^384.
func six(a *big.Int) api.Fp { return api.Fp(words(a, size)) }

// near is so many times p, and a bit more or less.
func near(times, more int64) api.Fp {
	a := new(big.Int).Mul(prime(), big.NewInt(times))
	return six(a.Add(a, big.NewInt(more)))
}

// ones are n words whose bits are all 1.
func ones(n int) []uint64 { return slices.Repeat([]uint64{top}, n) }

// drawn are n words, many of which lie at the edges of a word.
func drawn(random *rand.Rand, n int) []uint64 {
	all := make([]uint64, n)
	for i := range all {
		switch random.Intn(8) {
		case 0:
			all[i] = 0
		case 1:
			all[i] = top
		case 2:
			all[i] = 1 << random.Intn(64)
		default:
			all[i] = random.Uint64()
		}
	}
	return all
}

// edges are the parts that the chapter's edges are made of: 0, 1, 2 and p - 1, p and more, multiples of p, six words all 2^64 - 1.
func edges() []api.Fp {
	return []api.Fp{{}, {1}, {2}, near(1, -2), near(1, -1), near(1, 0), near(1, 1), near(1, 2), near(2, 0), near(9, -1), near(9, 0), near(9, 2), api.Fp(ones(size))}
}

// more is a number with so many times p on it, as often as six words hold it.
func more(a api.Fp, times int64) api.Fp {
	sum := new(big.Int).Mul(prime(), big.NewInt(times))
	sum.Add(sum, number(a[:]))
	if sum.BitLen() > 64*size {
		return more(a, times-1)
	}
	return six(sum)
}

// other is a point with other words for its numbers.
func other(p api.G1, timesX, timesY int64) api.G1 {
	return api.G1{X: more(p.X, timesX), Y: more(p.Y, timesY), Inf: p.Inf}
}

// place is a point of the library's numbers, below p; x is nil at infinity.
type place struct{ x, y *big.Int }

// placed is a point as the library's numbers.
func placed(p api.G1) place {
	if p.Inf {
		return place{}
	}
	left := func(a api.Fp) *big.Int { return new(big.Int).Mod(number(a[:]), prime()) }
	return place{left(p.X), left(p.Y)}
}

// point is the point that is to be answered for it.
func (a place) point() api.G1 {
	if a.x == nil {
		return api.G1{Inf: true}
	}
	return api.G1{X: six(a.x), Y: six(a.y)}
}

// isOn is what the chapter's equation says.
func (a place) isOn() bool {
	if a.x == nil {
		return true
	}
	cube := new(big.Int).Exp(a.x, big.NewInt(3), nil)
	cube.Sub(cube.Add(cube, big.NewInt(4)), new(big.Int).Mul(a.y, a.y))
	return cube.Mod(cube, prime()).Sign() == 0
}

// slope is P12.2's, and whether there is one.
func (a place) slope(b place) (*big.Int, bool) {
	above, below := new(big.Int).Sub(b.y, a.y), new(big.Int).Sub(b.x, a.x)
	if below.Sign() == 0 {
		if above.Sign() != 0 || a.y.Sign() == 0 {
			return nil, false
		}
		above.Mul(big.NewInt(3), new(big.Int).Mul(a.x, a.x))
		below.Add(a.y, a.y)
	}
	below.ModInverse(below.Mod(below, prime()), prime())
	return above.Mul(above, below), true
}

// plus is P12.2's sum.
func (a place) plus(b place) place {
	if a.x == nil {
		return b
	}
	if b.x == nil {
		return a
	}
	slope, is := a.slope(b)
	if !is {
		return place{}
	}
	x := new(big.Int).Mul(slope, slope)
	x.Mod(x.Sub(x.Sub(x, a.x), b.x), prime())
	y := new(big.Int).Sub(a.x, x)
	y.Mod(y.Sub(y.Mul(y, slope), a.y), prime())
	return place{x, y}
}

// times is a point so many times added, bit by bit.
func (a place) times(k *big.Int) place {
	var sum place
	for bit := k.BitLen() - 1; bit >= 0; bit-- {
		sum = sum.plus(sum)
		if k.Bit(bit) == 1 {
			sum = sum.plus(a)
		}
	}
	return sum
}

// base is the chapter's.
func base() place { return place{written(baseX), written(baseY)} }

// lifted is the first point of the curve whose X is at least x, and whose Y is even.
func lifted(x *big.Int) place {
	for x = new(big.Int).Mod(x, prime()); ; x.Add(x, big.NewInt(1)) {
		cube := new(big.Int).Exp(x, big.NewInt(3), prime())
		y := new(big.Int).ModSqrt(cube.Add(cube, big.NewInt(4)), prime())
		if y == nil {
			continue
		}
		if y.Bit(0) == 1 {
			y.Sub(prime(), y)
		}
		return place{x, y}
	}
}

// points is how many points the curve has: r times the third part of (x - 1)·(x - 1), with chapter 14's x.
func points() *big.Int {
	root := written("D2010000 00010001")
	root.Mul(root, root)
	return root.Mul(root.Div(root, big.NewInt(3)), order())
}

// small is a point of order 11.
var small = sync.OnceValue(func() place {
	for x := int64(1); ; x++ {
		p := lifted(big.NewInt(x)).times(new(big.Int).Div(points(), big.NewInt(121)))
		for eleven := p.times(big.NewInt(11)); eleven.x != nil; eleven = p.times(big.NewInt(11)) {
			p = eleven
		}
		if p.x != nil {
			return p
		}
	}
})

// onCurve are points of the curve, their numbers below p: multiples of the base, those of order 3, one of order 11, and drawn ones of all orders.
func onCurve() []api.G1 {
	all := []api.G1{{Inf: true}, {Y: api.Fp{2}}, {Y: near(1, -2)}, small().point(), small().times(big.NewInt(7)).point()}
	for _, k := range []int64{1, 2, 3, 4, 5, 100} {
		all = append(all, base().times(big.NewInt(k)).point())
	}
	all = append(all, base().times(new(big.Int).Sub(order(), big.NewInt(1))).point())
	random := rand.New(rand.NewSource(30))
	for range 5 {
		all = append(all, lifted(new(big.Int).Rand(random, prime())).point())
	}
	return all
}

// offCurve are points that are not on it, of any words: all pairs of edges that the equation refuses, points of the curve with another Y or another X, and drawn ones.
func offCurve() []api.G1 {
	var all []api.G1
	for _, x := range edges() {
		for _, y := range edges() {
			all = append(all, api.G1{X: x, Y: y})
		}
	}
	for _, p := range onCurve() {
		if !p.Inf {
			all = append(all, api.G1{X: p.X}, api.G1{Y: p.Y}, api.G1{X: p.Y, Y: p.X}, api.G1{X: p.X, Y: six(new(big.Int).Xor(number(p.Y[:]), big.NewInt(1)))})
		}
	}
	random := rand.New(rand.NewSource(31))
	for range 20 {
		all = append(all, api.G1{X: api.Fp(drawn(random, size)), Y: api.Fp(drawn(random, size))})
	}
	return slices.DeleteFunc(all, func(p api.G1) bool { return placed(p).isOn() })
}

// samples are points on the curve and off it, with words below p and not, and infinity with any numbers.
func samples() []api.G1 {
	var all []api.G1
	for i, p := range onCurve() {
		all = append(all, p, other(p, 1, 0), other(p, 0, 1), other(p, int64(i), 9))
	}
	for _, x := range edges() {
		all = append(all, api.G1{X: x, Inf: true}, api.G1{Y: x, Inf: true}, api.G1{X: x, Y: x, Inf: true})
	}
	base := base().point()
	all = append(all, api.G1{X: base.X, Y: base.Y, Inf: true}, api.G1{X: base.X, Y: api.Fp(ones(size)), Inf: true})
	return append(all, offCurve()...)
}

// check holds an answer to what it must be.
func check(t *testing.T, call string, got api.G1, want place) {
	t.Helper()
	if must := want.point(); got != must {
		t.Errorf("%s: %v, want %v", call, got, must)
	}
}

// checkMul holds a multiple to what it must be.
func checkMul(t *testing.T, k []uint64, p api.G1, want place) {
	t.Helper()
	got, e := g1.Mul(k, p)
	if e != api.OK || got != want.point() {
		t.Errorf("%v times %v: %v, %v, want %v", k, p, got, e, want.point())
	}
}

// P12.1: On is what the equation says, at all samples; infinity is on the curve, whatever X and Y are; Reduce and Neg are below p, on the curve or not.
func TestCallsOfOnePoint(t *testing.T) {
	for _, p := range samples() {
		a := placed(p)
		if got := g1.On(p); got != a.isOn() {
			t.Errorf("On of %v: %v", p, got)
		}
		check(t, "Reduce", g1.Reduce(p), a)
		opposite := a
		if a.x != nil {
			opposite.y = new(big.Int).Mod(new(big.Int).Neg(a.y), prime())
		}
		check(t, "Neg", g1.Neg(p), opposite)
		check(t, "Neg of Neg", g1.Neg(g1.Neg(p)), a)
	}
}

// P12.1: some points of the curve, and what is beside them.
func TestOn(t *testing.T) {
	base := base().point()
	for _, p := range []api.G1{base, other(base, 1, 0), other(base, 0, 1), other(base, 8, 8), {Y: api.Fp{2}}, {Y: near(1, -2)}, {X: near(1, 0), Y: near(1, 2)}, {X: near(9, 0), Y: near(9, 2)}, {Inf: true}, {X: api.Fp{1}, Inf: true}, {Y: near(1, 0), Inf: true}, {X: api.Fp(ones(size)), Y: api.Fp(ones(size)), Inf: true}, small().point()} {
		if !g1.On(p) {
			t.Errorf("%v is not on the curve", p)
		}
	}
	for _, p := range []api.G1{{}, {X: near(1, 0), Y: near(1, 0)}, {X: api.Fp{1}}, {Y: api.Fp{1}}, {Y: api.Fp{3}}, {X: base.X}, {Y: base.Y}, {X: base.Y, Y: base.X}, {X: base.X, Y: more(api.Fp{1}, 1)}, {X: api.Fp(ones(size)), Y: api.Fp(ones(size))}} {
		if g1.On(p) {
			t.Errorf("%v is on the curve", p)
		}
	}
}

// P12.2: sums of all samples two by two, either way round, on the curve and off it, against the slope as the library reckons it.
func TestAdd(t *testing.T) {
	all := samples()
	for i, p := range all {
		for j := i; j < len(all); j += 1 + (i+j)%3 {
			q := all[j]
			check(t, "Add", g1.Add(p, q), placed(p).plus(placed(q)))
			check(t, "Add, the other way", g1.Add(q, p), placed(q).plus(placed(p)))
		}
		check(t, "Add to itself", g1.Add(p, p), placed(p).plus(placed(p)))
	}
}

// P12.2: with infinity, whatever numbers it has, in either place or in both.
func TestAddOfInfinity(t *testing.T) {
	for _, x := range edges() {
		for _, y := range edges() {
			none := api.G1{X: x, Y: y, Inf: true}
			check(t, "infinity twice", g1.Add(none, none), place{})
			check(t, "and another infinity", g1.Add(none, api.G1{X: y, Y: x, Inf: true}), place{})
			for _, p := range []api.G1{{X: x, Y: y}, {X: y, Y: x}, base().point(), other(base().point(), 3, 4)} {
				check(t, "infinity and a point", g1.Add(none, p), placed(p))
				check(t, "a point and infinity", g1.Add(p, none), placed(p))
			}
		}
	}
}

// P12.2: X that are one: the same Y is doubled, though its words be others; 0, or another Y, is infinity, on the curve or off it.
func TestAddOfOneX(t *testing.T) {
	for i, p := range append(onCurve()[1:], offCurve()...) {
		q := g1.Reduce(p)
		double := placed(p).plus(placed(p))
		for _, times := range [][2]int64{{0, 0}, {1, 0}, {0, 1}, {1, 1}, {int64(i % 10), 9}} {
			same := other(q, times[0], times[1])
			check(t, "twice", g1.Add(q, same), double)
			check(t, "twice, the other way", g1.Add(same, q), double)
			check(t, "opposites", g1.Add(p, g1.Neg(same)), place{})
			check(t, "opposites, the other way", g1.Add(g1.Neg(p), same), place{})
			up := same
			up.Y = six(new(big.Int).Mod(new(big.Int).Add(number(same.Y[:]), big.NewInt(1)), prime()))
			check(t, "the same X and the next Y", g1.Add(p, up), place{})
			check(t, "the same X and Y 0", g1.Add(api.G1{X: same.X}, api.G1{X: q.X, Y: more(api.Fp{}, times[1])}), place{})
		}
	}
}

// P12.2: sums off the curve whose numbers are known: (0, 1) twice has the slope 0, (2, 1) twice the slope 6, (1, 2) and (3, 8) have the slope 3.
func TestKnownSums(t *testing.T) {
	whole := func(x, y int64) place {
		left := func(a int64) *big.Int { return new(big.Int).Mod(big.NewInt(a), prime()) }
		return place{left(x), left(y)}
	}
	check(t, "(0, 1) twice", g1.Add(whole(0, 1).point(), whole(0, 1).point()), whole(0, -1))
	check(t, "(0, 2) twice", g1.Add(whole(0, 2).point(), whole(0, 2).point()), whole(0, -2))
	check(t, "(2, 1) twice", g1.Add(whole(2, 1).point(), whole(2, 1).point()), whole(32, -181))
	check(t, "(1, 2) and (3, 8)", g1.Add(whole(1, 2).point(), whole(3, 8).point()), whole(5, -14))
	check(t, "(3, 8) and (1, 2)", g1.Add(whole(3, 8).point(), whole(1, 2).point()), whole(5, -14))
	check(t, "(1, 0) and (2, 0)", g1.Add(whole(1, 0).point(), whole(2, 0).point()), whole(-3, 0))
	check(t, "(1, 0) twice", g1.Add(whole(1, 0).point(), whole(1, 0).point()), place{})
	check(t, "(0, 0) twice", g1.Add(api.G1{}, api.G1{X: near(1, 0), Y: near(2, 0)}), place{})
	check(t, "(-1, -1) and (1, 1)", g1.Add(whole(-1, -1).point(), whole(1, 1).point()), whole(1, -1))
}

// P12.3: the first 150 multiples, each the one before and the point again; noughts above change nothing; orders 3 and 11 come through infinity and themselves on the way.
func TestSmallMultiples(t *testing.T) {
	for i, p := range onCurve() {
		want := place{}
		for k := range uint64(150) {
			for _, words := range [][]uint64{{k}, {k, 0}, {k, 0, 0, 0, 0, 0, 0}} {
				checkMul(t, words, other(p, int64(i%3), int64(i%2)), want)
			}
			want = want.plus(placed(p))
		}
	}
}

// multipliers are those of no word, of noughts, small ones, those about r and the curve's number of points, of words 2^64 - 1, and drawn ones of up to nine words.
func multipliers() [][]uint64 {
	all := [][]uint64{nil, {}, {0}, {0, 0, 0, 0, 0, 0, 0}, {1}, {2}, {1, 0, 0}, {0, 1}, {0, 0, 1}, {1 << 63}, {top}, {top, 0}, {0, top}, ones(2), ones(4), ones(6), ones(9)}
	for more := int64(-2); more <= 2; more++ {
		all = append(all, words(new(big.Int).Add(order(), big.NewInt(more)), 4), words(new(big.Int).Add(order(), big.NewInt(more)), 6))
		all = append(all, words(new(big.Int).Add(points(), big.NewInt(more)), 6))
	}
	random := rand.New(rand.NewSource(32))
	for n := 1; n <= 9; n++ {
		all = append(all, drawn(random, n), append(drawn(random, n), 0, 0))
	}
	return all
}

// P12.3: multiples of many words, as they are reckoned bit by bit.
func TestMul(t *testing.T) {
	for i, p := range onCurve() {
		for j, k := range multipliers() {
			if (i+j)%3 == 0 {
				checkMul(t, k, other(p, int64(j%10), int64(i%10)), placed(p).times(number(k)))
			}
		}
	}
}

// P12.3: r times a multiple of the base is infinity, and r - 1 times it its opposite; as many times any point as the curve has points is infinity too.
func TestOrders(t *testing.T) {
	one := big.NewInt(1)
	p := g1.Base()
	for range 10 {
		checkMul(t, words(order(), 4), p, place{})
		checkMul(t, words(new(big.Int).Sub(order(), one), 4), p, placed(g1.Neg(p)))
		checkMul(t, words(new(big.Int).Add(order(), one), 4), p, placed(p))
		p = g1.Add(g1.Add(p, p), g1.Base())
	}
	for _, q := range onCurve() {
		checkMul(t, words(points(), 6), q, place{})
		checkMul(t, words(new(big.Int).Add(points(), one), 6), q, placed(q))
	}
	if p := onCurve()[len(onCurve())-1]; placed(p).times(order()).x == nil {
		t.Error("the drawn point is of order r: no point off the subgroup is tested")
	}
}

// P12.3: a multiple of a sum of numbers is the sum of the multiples, one of their product a multiple's multiple.
func TestSumsOfMultiples(t *testing.T) {
	random := rand.New(rand.NewSource(33))
	for _, p := range onCurve() {
		k, l := drawn(random, 1+random.Intn(5)), drawn(random, 1+random.Intn(5))
		first, _ := g1.Mul(k, p)
		second, _ := g1.Mul(l, p)
		checkMul(t, words(new(big.Int).Add(number(k), number(l)), 6), p, placed(g1.Add(first, second)))
		twice, _ := g1.Mul(l, first)
		checkMul(t, words(new(big.Int).Mul(number(k), number(l)), 10), p, placed(twice))
	}
}

// P12.3: a long list: the highest word counts, noughts above it change nothing.
func TestMulByLongLists(t *testing.T) {
	random := rand.New(rand.NewSource(34))
	p := lifted(big.NewInt(1000))
	k := append(drawn(random, 300), 1)
	want := p.times(new(big.Int).Mod(number(k), points()))
	checkMul(t, k, p.point(), want)
	checkMul(t, append(k, make([]uint64, 20000)...), p.point(), want)
	checkMul(t, make([]uint64, 20000), p.point(), place{})
}

// P12.3: infinity times anything is infinity, whatever numbers it has.
func TestMulOfInfinity(t *testing.T) {
	for _, k := range multipliers() {
		for _, x := range edges() {
			checkMul(t, k, api.G1{X: x, Inf: true}, place{})
			checkMul(t, k, api.G1{X: x, Y: x, Inf: true}, place{})
		}
		checkMul(t, k, api.G1{X: base().point().X, Y: base().point().Y, Inf: true}, place{})
	}
}

// checkError holds an answer to an error, without a point.
func checkError(t *testing.T, p api.G1, e, want api.Errno) {
	t.Helper()
	if e != want || p != (api.G1{}) {
		t.Errorf("%v, %v, want %v", p, e, want)
	}
}

// P12.3: ErrCurve off the curve, by no words and by 0 too.
func TestMulOffTheCurve(t *testing.T) {
	for _, p := range offCurve() {
		for _, k := range [][]uint64{nil, {}, {0}, {0, 0}, {1}, {2}, {top}, words(order(), 4)} {
			got, e := g1.Mul(k, p)
			checkError(t, got, e, api.ErrCurve)
			got, e = g1.Sum([][]uint64{k}, []api.G1{p})
			checkError(t, got, e, api.ErrCurve)
		}
	}
}

// P12.3: sums of none, one and several points, of opposites, of infinities and of the same point many times.
func TestSum(t *testing.T) {
	all, numbers := onCurve(), multipliers()
	random := rand.New(rand.NewSource(35))
	for n := range 40 {
		var ks [][]uint64
		var ps []api.G1
		want := place{}
		for range n % 8 {
			k, p := numbers[random.Intn(len(numbers))], all[random.Intn(len(all))]
			ks, ps = append(ks, k), append(ps, other(p, random.Int63n(10), random.Int63n(10)))
			want = want.plus(placed(p).times(number(k)))
		}
		got, e := g1.Sum(ks, ps)
		if check(t, "Sum", got, want); e != api.OK {
			t.Errorf("Sum of %v and %v: %v", ks, ps, e)
		}
	}
}

// P12.3: sums whose answers are known.
func TestKnownSumsOfMultiples(t *testing.T) {
	p, none := g1.Base(), api.G1{X: api.Fp{7}, Y: near(1, 0), Inf: true}
	thrice := base().times(big.NewInt(3))
	for i, c := range []struct {
		ks   [][]uint64
		ps   []api.G1
		want place
	}{
		{nil, nil, place{}},
		{[][]uint64{}, []api.G1{}, place{}},
		{nil, []api.G1{}, place{}},
		{[][]uint64{{1}}, []api.G1{p}, base()},
		{[][]uint64{{3}}, []api.G1{p}, thrice},
		{[][]uint64{nil}, []api.G1{p}, place{}},
		{[][]uint64{{1}}, []api.G1{none}, place{}},
		{[][]uint64{{1}, {1}}, []api.G1{p, g1.Neg(p)}, place{}},
		{[][]uint64{{1}, {1}, {1}}, []api.G1{p, p, other(p, 1, 1)}, thrice},
		{[][]uint64{{1}, {2}}, []api.G1{p, p}, thrice},
		{[][]uint64{{5}, {2, 0}}, []api.G1{p, g1.Neg(p)}, thrice},
		{[][]uint64{{1}, {9}, {1}}, []api.G1{p, none, g1.Add(p, p)}, thrice},
		{[][]uint64{{0}, {3}, nil}, []api.G1{p, p, p}, thrice},
		{[][]uint64{words(order(), 4), {3}}, []api.G1{p, p}, thrice},
		{slices.Repeat([][]uint64{{1}}, 300), slices.Repeat([]api.G1{p}, 300), base().times(big.NewInt(300))},
	} {
		got, e := g1.Sum(c.ks, c.ps)
		if got != c.want.point() || e != api.OK {
			t.Errorf("%d: %v, %v", i, got, e)
		}
	}
}

// P12.3: ErrArg, if there are more or fewer numbers than points, ahead of ErrCurve; ErrCurve, if one of the points is off the curve, in whatever place, by 0 times it too.
func TestSumErrors(t *testing.T) {
	p, off := g1.Base(), api.G1{X: api.Fp{1}, Y: api.Fp{1}}
	for n := range 5 {
		for m := range 5 {
			ks := slices.Repeat([][]uint64{{1}}, n)
			for _, one := range []api.G1{p, off, {Inf: true}} {
				got, e := g1.Sum(ks, slices.Repeat([]api.G1{one}, m))
				switch {
				case n != m:
					checkError(t, got, e, api.ErrArg)
				case one == off && n > 0:
					checkError(t, got, e, api.ErrCurve)
				case e != api.OK:
					t.Errorf("%d of %v: %v", n, one, e)
				}
			}
		}
		for at := range n {
			ps := slices.Repeat([]api.G1{p}, n)
			ps[at] = off
			for _, k := range [][]uint64{nil, {0}, {1}, {top, 3}} {
				got, e := g1.Sum(slices.Repeat([][]uint64{k}, n), ps)
				checkError(t, got, e, api.ErrCurve)
			}
		}
	}
}

// P12.4: the base's numbers are the chapter's; it is on the curve, and r times it is infinity, but no less often that divides r.
func TestBase(t *testing.T) {
	check(t, "Base", g1.Base(), base())
	if !g1.On(g1.Base()) || !base().isOn() || !order().ProbablyPrime(20) {
		t.Error("the base is not on the curve, or r is no prime")
	}
	checkMul(t, words(order(), 4), g1.Base(), place{})
}

// P12.5: orders and brackets do not matter on the curve; a point and its opposite are infinity; what is added is taken away.
func TestGroup(t *testing.T) {
	all := samples()
	all = slices.DeleteFunc(all, func(p api.G1) bool { return !placed(p).isOn() })
	random := rand.New(rand.NewSource(36))
	for range 3000 {
		p, q, s := all[random.Intn(len(all))], all[random.Intn(len(all))], all[random.Intn(len(all))]
		for law, sides := range map[string][2]api.G1{
			"order":              {g1.Add(p, q), g1.Add(q, p)},
			"brackets":           {g1.Add(g1.Add(p, q), s), g1.Add(p, g1.Add(q, s))},
			"opposites":          {g1.Add(p, g1.Neg(p)), {Inf: true}},
			"differences":        {g1.Add(g1.Add(p, q), g1.Neg(q)), g1.Reduce(p)},
			"opposites of sums":  {g1.Neg(g1.Add(p, q)), g1.Add(g1.Neg(p), g1.Neg(q))},
			"twice, in brackets": {g1.Add(g1.Add(p, q), g1.Add(p, q)), g1.Add(g1.Add(p, p), g1.Add(q, q))},
		} {
			if sides[0] != sides[1] {
				t.Errorf("%s: %v, %v, %v: %v and %v", law, p, q, s, sides[0], sides[1])
			}
		}
		if !g1.On(g1.Add(p, q)) || !g1.On(g1.Neg(p)) {
			t.Errorf("%v and %v: their sum is off the curve", p, q)
		}
	}
}

// R4, R5: the words of numbers, the lists and the points stay as they were, spare room too, and are not kept; asked again, and with multiples of p added, a call answers the same.
func TestListsAreNeitherChangedNorKept(t *testing.T) {
	random := rand.New(rand.NewSource(37))
	p := other(base().point(), 2, 3)
	for n := range 6 {
		room := drawn(random, n+4)
		before := slices.Clone(room)
		ks := slices.Repeat([][]uint64{room[:n]}, n+2)[:n]
		ps := slices.Repeat([]api.G1{p}, n+2)[:n]
		first, _ := g1.Mul(room[:n], p)
		sum, _ := g1.Sum(ks, ps)
		if !slices.Equal(room, before) || slices.ContainsFunc(ps[:n+2], func(q api.G1) bool { return q != p }) {
			t.Errorf("%d words: they, or the points, are changed", n)
		}
		for i, k := range ks[:n+2] {
			if len(k) != n || cap(k) != cap(room) || n > 0 && &k[0] != &room[0] {
				t.Errorf("%d words: list %d is changed", n, i)
			}
		}
		for i := range room {
			room[i] ^= top
		}
		clear(ps)
		again, _ := g1.Mul(before[:n], g1.Reduce(p))
		sumAgain, _ := g1.Sum(slices.Repeat([][]uint64{before[:n]}, n), slices.Repeat([]api.G1{other(p, 1, 1)}, n))
		if first != again || sum != sumAgain {
			t.Errorf("%d words: %v and %v, then %v and %v", n, first, sum, again, sumAgain)
		}
	}
}

// The chapter's section 'Examples', as it stands there.
func TestChapterExamples(t *testing.T) {
	p, none := g1.Base(), api.G1{Inf: true}
	if got := g1.Add(p, g1.Neg(p)); got != none {
		t.Errorf("%v", got)
	}
	if got, e := g1.Mul([]uint64{0}, p); got != none || e != api.OK {
		t.Errorf("%v, %v", got, e)
	}
	if got, e := g1.Mul([]uint64{2}, p); got != g1.Add(p, p) || e != api.OK {
		t.Errorf("%v, %v", got, e)
	}
	got, e := g1.Mul([]uint64{1}, api.G1{})
	checkError(t, got, e, api.ErrCurve)
}
