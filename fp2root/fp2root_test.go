package fp2root_test

import (
	"math/big"
	"math/rand"
	"slices"
	"strings"
	"testing"

	"sigil/api"
	"sigil/fp"
	"sigil/fp2"
	"sigil/fp2root"
	"sigil/fproot"
)

// size is how many words a part has.
const size = 6

// top is a word whose bits are all 1.
const top = 1<<64 - 1

// primeDigits are p, as chapter 4 writes it.
const primeDigits = "1A0111EA 397FE69A 4B1BA7B6 434BACD7 64774B84 F38512BF 6730D2A0 F6B0F624 1EABFFFE B153FFFF B9FEFFFF FFFFAAAB"

// prime is p.
func prime() *big.Int {
	p, _ := new(big.Int).SetString(strings.ReplaceAll(primeDigits, " ", ""), 16)
	return p
}

// number is what six words mean modulo p.
func number(a api.Fp) *big.Int {
	sum := new(big.Int)
	for _, word := range slices.Backward(a[:]) {
		sum.Lsh(sum, 64)
		sum.Add(sum, new(big.Int).SetUint64(word))
	}
	return sum.Mod(sum, prime())
}

// six are the six words of a number below 2^384.
func six(a *big.Int) api.Fp {
	var words api.Fp
	for i := range words {
		words[i] = new(big.Int).Rsh(a, uint(64*i)).Uint64()
	}
	return words
}

// near is so many times p, and a bit more or less.
func near(times, more int64) api.Fp {
	a := new(big.Int).Mul(prime(), big.NewInt(times))
	return six(a.Add(a, big.NewInt(more)))
}

// half is the greatest number below half of p, and a bit more or less.
func half(more int64) api.Fp {
	a := new(big.Int).Rsh(prime(), 1)
	return six(a.Add(a, big.NewInt(more)))
}

// ones are six words whose bits are all 1.
func ones() api.Fp { return api.Fp{top, top, top, top, top, top} }

// drawn are six words, many of which lie at the edges of a word.
func drawn(random *rand.Rand) api.Fp {
	var all api.Fp
	for i := range all {
		switch random.Intn(6) {
		case 0:
			all[i] = 0
		case 1:
			all[i] = top
		case 2:
			all[i] = 1 << random.Intn(64)
		default:
			all[i] = random.Uint64()
		}
	}
	return all
}

// edges are the parts that the chapter's edges are made of: 0, 1, p - 1, those about half of p, p and more, multiples of p, six words all 2^64 - 1.
func edges() []api.Fp {
	return []api.Fp{{}, {1}, near(1, -1), half(0), half(1), near(1, 0), near(1, 1), near(2, 0), near(9, -1), near(9, 0), ones()}
}

// parts are the edges, small numbers, squares modulo p and not, and their opposites, and drawn ones, below p and not.
func parts() []api.Fp {
	all := append(edges(), api.Fp{2}, api.Fp{3}, api.Fp{4}, api.Fp{9}, api.Fp{0, 1}, api.Fp{5: 1 << 63}, near(1, -2), near(1, -3), near(1, -4), near(2, 1), near(3, -4), near(8, 2), near(1, 4))
	random := rand.New(rand.NewSource(80))
	for range 8 {
		all = append(all, drawn(random), six(new(big.Int).Rand(random, prime())))
	}
	return all
}

// samples are all numbers with the parts above.
func samples() []api.Fp2 {
	var all []api.Fp2
	for _, a := range parts() {
		for _, b := range parts() {
			all = append(all, api.Fp2{A: a, B: b})
		}
	}
	return all
}

// plain is a number of two small parts; those below 0 are the opposites'.
func plain(a, b int64) api.Fp2 {
	part := func(x int64) api.Fp { return six(new(big.Int).Mod(big.NewInt(x), prime())) }
	return api.Fp2{A: part(a), B: part(b)}
}

// wide is a number with u, its parts the library's, below p.
type wide struct{ a, b *big.Int }

// widened is a number as the library's.
func widened(a api.Fp2) wide { return wide{number(a.A), number(a.B)} }

// is0 tells whether both parts are 0.
func (x wide) is0() bool { return x.a.Sign() == 0 && x.b.Sign() == 0 }

// is tells whether both numbers have the same parts.
func (x wide) is(y wide) bool { return x.a.Cmp(y.a) == 0 && x.b.Cmp(y.b) == 0 }

// times is a product, made of all four of its parts.
func (x wide) times(y wide) wide {
	product := func(a, b *big.Int) *big.Int { return new(big.Int).Mul(a, b) }
	ofA, ofB := product(x.a, y.a), product(x.b, y.b)
	left := wide{ofA.Sub(ofA, ofB), product(x.a, y.b)}
	left.b.Add(left.b, product(x.b, y.a))
	return wide{left.a.Mod(left.a, prime()), left.b.Mod(left.b, prime())}
}

// isSquare is what Euler says of any field: 0 is a square, and what to the power of half of all numbers but 0 is 1.
func (x wide) isSquare() bool {
	e := new(big.Int).Mul(prime(), prime())
	e.Rsh(e, 1)
	power := wide{big.NewInt(1), new(big.Int)}
	for bit := e.BitLen() - 1; bit >= 0; bit-- {
		power = power.times(power)
		if e.Bit(bit) == 1 {
			power = power.times(x)
		}
	}
	return x.is0() || power.is(wide{big.NewInt(1), new(big.Int)})
}

// normIsSquare is the same, sooner: whether A·A + B·B is 0 or has Jacobi's symbol 1.
func (x wide) normIsSquare() bool {
	norm := new(big.Int).Mul(x.a, x.a)
	norm.Add(norm, new(big.Int).Mul(x.b, x.b))
	return big.Jacobi(norm.Mod(norm, prime()), prime()) >= 0
}

// sign is the lowest bit of A, or, if A is 0, of B.
func (x wide) sign() int {
	if x.a.Sign() == 0 {
		return int(x.b.Bit(0))
	}
	return int(x.a.Bit(0))
}

// bigger is whether B, or, if B is 0, A is greater than its opposite.
func (x wide) bigger() bool {
	counts := x.b
	if counts.Sign() == 0 {
		counts = x.a
	}
	return new(big.Int).Lsh(counts, 1).Cmp(prime()) > 0
}

// checkRoot holds one number to P8.2: Is and Sqrt say what is wanted; a root has parts below p and the sign 0, and its product with itself is the number; beside a false there is 0.
func checkRoot(t *testing.T, a api.Fp2, wanted bool) {
	t.Helper()
	root, is := fp2root.Sqrt(a)
	if is != wanted || fp2root.Is(a) != wanted {
		t.Errorf("%X: Sqrt %v, Is %v, want %v", a, is, fp2root.Is(a), wanted)
	}
	x := widened(root)
	if fp2.Reduce(root) != root {
		t.Errorf("%X: the root %X has a part not below p", a, root)
	}
	if wanted && (!x.times(x).is(widened(a)) || x.sign() != 0) {
		t.Errorf("%X: the root %X, of sign %d", a, root, x.sign())
	}
	if !wanted && root != (api.Fp2{}) {
		t.Errorf("%X is no square: the root %X", a, root)
	}
}

// P8.2: roots of small numbers: 0, 1, u, -1, -u, 1 + u; such as have no A and no B, squares modulo p and not, and such as have both; roots whose sign B tells, and A.
func TestSmallRoots(t *testing.T) {
	for _, c := range []struct {
		a, root api.Fp2
		is      bool
	}{
		{plain(0, 0), plain(0, 0), true},
		{plain(1, 0), plain(-1, 0), true},
		{plain(-1, 0), plain(0, -1), true},
		{plain(4, 0), plain(2, 0), true},
		{plain(-4, 0), plain(0, 2), true},
		{plain(9, 0), plain(-3, 0), true},
		{plain(-9, 0), plain(0, -3), true},
		{plain(16, 0), plain(4, 0), true},
		{plain(-16, 0), plain(0, 4), true},
		{plain(0, 2), plain(-1, -1), true},
		{plain(0, -2), plain(-1, 1), true},
		{plain(0, 8), plain(2, 2), true},
		{plain(0, -8), plain(2, -2), true},
		{plain(0, 18), plain(-3, -3), true},
		{plain(3, 4), plain(2, 1), true},
		{plain(3, -4), plain(2, -1), true},
		{plain(-3, 4), plain(-1, -2), true},
		{plain(-3, -4), plain(-1, 2), true},
		{plain(5, 12), plain(-3, -2), true},
		{plain(-5, 12), plain(2, 3), true},
		{plain(-16, 30), plain(-3, -5), true},
		{plain(1, 1), plain(0, 0), false},
		{plain(1, -1), plain(0, 0), false},
		{plain(-1, 1), plain(0, 0), false},
		{plain(-1, -1), plain(0, 0), false},
		{plain(2, 2), plain(0, 0), false},
	} {
		if root, is := fp2root.Sqrt(c.a); root != c.root || is != c.is {
			t.Errorf("Sqrt of %X: %X, %v, want %X, %v", c.a, root, is, c.root, c.is)
		}
		checkRoot(t, c.a, c.is)
	}
	for _, a := range []api.Fp2{plain(2, 0), plain(-2, 0), plain(0, 1), plain(0, -1), plain(0, 3), plain(0, -3), plain(0, 4), plain(0, -4)} {
		checkRoot(t, a, widened(a).isSquare())
	}
}

// P8.2: parts that are not below p count for their numbers modulo p, as each part.
func TestRootsOfPartsNotBelowP(t *testing.T) {
	for times := int64(1); times < 10; times++ {
		for other := int64(0); other < 10; other++ {
			for _, c := range []struct {
				a, b int64
				root api.Fp2
				is   bool
			}{
				{0, 0, plain(0, 0), true},
				{1, 0, plain(-1, 0), true},
				{-1, 0, plain(0, -1), true},
				{0, 2, plain(-1, -1), true},
				{3, 4, plain(2, 1), true},
				{1, 1, plain(0, 0), false},
			} {
				a := api.Fp2{A: near(times, c.a), B: near(other, c.b)}
				if root, is := fp2root.Sqrt(a); root != c.root || is != c.is || fp2root.Is(a) != c.is {
					t.Errorf("%d p and %d, %d p and %d: %X, %v, want %X, %v", times, c.a, other, c.b, root, is, c.root, c.is)
				}
			}
		}
	}
}

// P8.2: all samples, six words all 2^64 - 1 as each part among them, as the norm tells it.
func TestRootsOfSamples(t *testing.T) {
	squares, others := 0, 0
	for _, a := range samples() {
		is := widened(a).normIsSquare()
		checkRoot(t, a, is)
		if is {
			squares++
		} else {
			others++
		}
	}
	if squares < 100 || others < 100 {
		t.Errorf("%d samples are squares, and %d are not", squares, others)
	}
}

// P8.2: drawn numbers, and edges, as Euler tells it, who asks no norm.
func TestRootsAsEulerTells(t *testing.T) {
	random := rand.New(rand.NewSource(81))
	for range 60 {
		a := api.Fp2{A: drawn(random), B: drawn(random)}
		checkRoot(t, a, widened(a).isSquare())
	}
	all := edges()
	for i, a := range all {
		for _, b := range []api.Fp{all[(i+3)%len(all)], all[(7*i+1)%len(all)]} {
			number := api.Fp2{A: a, B: b}
			checkRoot(t, number, widened(number).isSquare())
		}
	}
}

// P8.2, P8.3: a number's product with itself always has a root, and that is the number or its opposite.
func TestRootsOfSquares(t *testing.T) {
	byA, byB := 0, 0
	for _, a := range samples() {
		square := fp2.Mul(a, a)
		checkRoot(t, square, true)
		root, _ := fp2root.Sqrt(square)
		if x := fp2.Reduce(a); x != root && x != fp2.Neg(root) {
			t.Errorf("%X is none of its square's roots, %X and its opposite", a, root)
		}
		if back := fp2.Neg(root); fp2.Mul(back, back) != square {
			t.Errorf("%X's square: the opposite of %X is no root", a, root)
		}
		if root.A == (api.Fp{}) {
			byB++
		} else {
			byA++
		}
	}
	if byA < 100 || byB < 100 {
		t.Errorf("A tells the sign of %d roots, B of %d", byA, byB)
	}
}

// P8.2, P8.3: drawn numbers' squares, below p and not.
func TestRootsOfDrawnSquares(t *testing.T) {
	random := rand.New(rand.NewSource(82))
	for range 1000 {
		a := api.Fp2{A: drawn(random), B: six(new(big.Int).Rand(random, prime()))}
		want := fp2.Reduce(a)
		if widened(a).sign() == 1 {
			want = fp2.Neg(a)
		}
		if root, is := fp2root.Sqrt(fp2.Mul(a, a)); root != want || !is {
			t.Errorf("%X's square: %X, %v, want %X", a, root, is, want)
		}
	}
}

// P8.3: each number without B is a square: its root has no B if A is a square modulo p, and else no A.
func TestNumbersWithoutB(t *testing.T) {
	all := parts()
	random := rand.New(rand.NewSource(83))
	for range 300 {
		all = append(all, drawn(random))
	}
	for small := range uint64(50) {
		all = append(all, api.Fp{small}, fp.Neg(api.Fp{small}))
	}
	squares, others := 0, 0
	for _, part := range all {
		for _, nothing := range []api.Fp{{}, near(1, 0), near(9, 0)} {
			a := api.Fp2{A: part, B: nothing}
			checkRoot(t, a, true)
			want := api.Fp2{}
			if root, is := fproot.Sqrt(part); is {
				want.A, squares = root, squares+1
			} else {
				want.B, _ = fproot.Sqrt(fp.Neg(part))
				others++
			}
			if root, _ := fp2root.Sqrt(a); root != want {
				t.Errorf("%X: %X, want %X", a, root, want)
			}
		}
	}
	if squares < 100 || others < 100 {
		t.Errorf("A is a square modulo p of %d numbers, and not of %d", squares, others)
	}
}

// P8.2: each number without A is a square, too, whether B is one modulo p or not: B·B, its norm, is one.
func TestNumbersWithoutA(t *testing.T) {
	squares, others := 0, 0
	for _, part := range parts() {
		for _, nothing := range []api.Fp{{}, near(1, 0), near(9, 0)} {
			checkRoot(t, api.Fp2{A: nothing, B: part}, true)
		}
		if fproot.Is(part) {
			squares++
		} else {
			others++
		}
	}
	if squares < 5 || others < 5 {
		t.Errorf("B is a square modulo p of %d numbers, and not of %d", squares, others)
	}
}

// P8.3: a product is a square just if both numbers are, or none, or one is 0.
func TestProductsOfSquares(t *testing.T) {
	var squares, others []api.Fp2
	for _, a := range samples() {
		switch {
		case fp2.Reduce(a) == (api.Fp2{}):
		case fp2root.Is(a):
			squares = append(squares, a)
		default:
			others = append(others, a)
		}
	}
	both := func(these, those []api.Fp2, want bool) {
		t.Helper()
		random := rand.New(rand.NewSource(84))
		for range 300 {
			a, b := these[random.Intn(len(these))], those[random.Intn(len(those))]
			checkRoot(t, fp2.Mul(a, b), want)
		}
	}
	zeros := []api.Fp2{{}, {A: near(1, 0)}, {A: near(2, 0), B: near(9, 0)}}
	both(squares, squares, true)
	both(others, others, true)
	both(squares, others, false)
	both(others, squares, false)
	both(zeros, squares, true)
	both(zeros, others, true)
}

// P8.2: conjugates and opposites of squares are squares, and others' are none.
func TestConjugatesAndOpposites(t *testing.T) {
	for _, a := range samples() {
		is := fp2root.Is(a)
		if fp2root.Is(fp2.Conj(a)) != is || fp2root.Is(fp2.Neg(a)) != is {
			t.Errorf("%X: %v, its conjugate %v, its opposite %v", a, is, fp2root.Is(fp2.Conj(a)), fp2root.Is(fp2.Neg(a)))
		}
	}
}

// checkSides holds one number to P8.1.
func checkSides(t *testing.T, a api.Fp2) {
	t.Helper()
	if got, want := fp2root.Sign(a), widened(a).sign(); got != want {
		t.Errorf("Sign of %X: %d, want %d", a, got, want)
	}
	if got, want := fp2root.Bigger(a), widened(a).bigger(); got != want {
		t.Errorf("Bigger of %X: %v, want %v", a, got, want)
	}
}

// P8.1: signs where A is 0, in its own words or p's multiples, and B odd or even; where A is not 0, whatever B is.
func TestSigns(t *testing.T) {
	for _, nothing := range []api.Fp{{}, near(1, 0), near(2, 0), near(9, 0)} {
		for _, c := range []struct {
			part api.Fp
			want int
		}{
			{api.Fp{}, 0}, {api.Fp{1}, 1}, {api.Fp{2}, 0}, {api.Fp{top}, 1}, {api.Fp{0, 1}, 0},
			{near(1, -1), 0}, {near(1, -2), 1}, {near(1, 0), 0}, {near(1, 1), 1}, {near(1, 2), 0},
			{near(2, 0), 0}, {near(2, 1), 1}, {near(2, -1), 0}, {near(9, 1), 1},
		} {
			if got := fp2root.Sign(api.Fp2{A: nothing, B: c.part}); got != c.want {
				t.Errorf("Sign of %X and %X: %d, want %d", nothing, c.part, got, c.want)
			}
			if got := fp2root.Sign(api.Fp2{A: c.part, B: nothing}); got != c.want {
				t.Errorf("Sign of %X and %X: %d, want %d", c.part, nothing, got, c.want)
			}
			for _, b := range edges() {
				if got := fp2root.Sign(api.Fp2{A: api.Fp{2}, B: b}); got != 0 {
					t.Errorf("Sign of 2 and %X: %d", b, got)
				}
				if got := fp2root.Sign(api.Fp2{A: near(2, 1), B: b}); got != 1 {
					t.Errorf("Sign of 2 p + 1 and %X: %d", b, got)
				}
			}
		}
	}
}

// P8.1: Bigger where B is 0, in its own words or p's multiples, and where it is not, whatever A is; at both numbers about half of p.
func TestBigger(t *testing.T) {
	for _, nothing := range []api.Fp{{}, near(1, 0), near(2, 0), near(9, 0)} {
		for _, c := range []struct {
			part api.Fp
			want bool
		}{
			{api.Fp{}, false}, {api.Fp{1}, false}, {api.Fp{2}, false}, {api.Fp{0, 0, 0, 0, 1}, false},
			{half(-1), false}, {half(0), false}, {half(1), true}, {half(2), true},
			{near(1, -1), true}, {near(1, 0), false}, {near(1, 1), false}, {near(2, -1), true}, {near(2, 0), false},
			{six(new(big.Int).Add(number(half(0)), prime())), false}, {six(new(big.Int).Add(number(half(1)), prime())), true},
		} {
			if got := fp2root.Bigger(api.Fp2{A: c.part, B: nothing}); got != c.want {
				t.Errorf("Bigger of %X and %X: %v, want %v", c.part, nothing, got, c.want)
			}
			if got := fp2root.Bigger(api.Fp2{A: nothing, B: c.part}); got != c.want {
				t.Errorf("Bigger of %X and %X: %v, want %v", nothing, c.part, got, c.want)
			}
		}
	}
	for _, a := range edges() {
		if fp2root.Bigger(api.Fp2{A: a, B: api.Fp{1}}) || fp2root.Bigger(api.Fp2{A: a, B: half(0)}) {
			t.Errorf("%X and a small B are bigger", a)
		}
		if !fp2root.Bigger(api.Fp2{A: a, B: half(1)}) || !fp2root.Bigger(api.Fp2{A: a, B: near(1, -1)}) {
			t.Errorf("%X and a great B are not bigger", a)
		}
	}
}

// P8.1: all samples, and drawn numbers.
func TestSidesOfSamples(t *testing.T) {
	for _, a := range samples() {
		checkSides(t, a)
	}
	random := rand.New(rand.NewSource(85))
	for range 10000 {
		checkSides(t, api.Fp2{A: drawn(random), B: drawn(random)})
	}
}

// P8.1: of a number and its opposite just one has the sign 1, and just one is the bigger; of 0 none.
func TestSidesOfOpposites(t *testing.T) {
	for _, a := range samples() {
		want, other := 1, fp2.Neg(a)
		if fp2.Reduce(a) == (api.Fp2{}) {
			want = 0
		}
		if got := fp2root.Sign(a) + fp2root.Sign(other); got != want {
			t.Errorf("%X and its opposite: %d have the sign 1, want %d", a, got, want)
		}
		if (fp2root.Bigger(a) != fp2root.Bigger(other)) != (want == 1) {
			t.Errorf("%X: bigger %v, and its opposite %v", a, fp2root.Bigger(a), fp2root.Bigger(other))
		}
	}
}

// P8.1: the calls of fproot are what a number's one part that counts is asked.
func TestSidesAreThoseOfParts(t *testing.T) {
	for _, part := range parts() {
		for _, nothing := range []api.Fp{{}, near(3, 0)} {
			for _, a := range []api.Fp2{{A: part, B: nothing}, {A: nothing, B: part}} {
				if got, want := fp2root.Sign(a), fproot.Sign(part); got != want {
					t.Errorf("Sign of %X: %d, want %d", a, got, want)
				}
				if got, want := fp2root.Bigger(a), fproot.Bigger(part); got != want {
					t.Errorf("Bigger of %X: %v, want %v", a, got, want)
				}
			}
		}
	}
}

// R5: asked again, in whatever order, and with other words for the same parts, a call answers the same.
func TestAnswersHangOnTheNumberAlone(t *testing.T) {
	type answer struct {
		is, rooted, bigger bool
		root               api.Fp2
		sign               int
	}
	ask := func(a api.Fp2) answer {
		root, rooted := fp2root.Sqrt(a)
		return answer{fp2root.Is(a), rooted, fp2root.Bigger(a), root, fp2root.Sign(a)}
	}
	all := samples()
	first := make([]answer, len(all))
	for i, a := range all {
		first[i] = ask(a)
	}
	more := func(a api.Fp, times int64) api.Fp {
		return six(new(big.Int).Add(number(a), new(big.Int).Mul(prime(), big.NewInt(times))))
	}
	for i, a := range slices.Backward(all) {
		if again := ask(a); again != first[i] {
			t.Errorf("%X: %v, and asked again %v", a, first[i], again)
		}
		if other := ask(api.Fp2{A: more(a.A, 8), B: more(a.B, 1)}); other != first[i] {
			t.Errorf("%X: %v, and with multiples of p added %v", a, first[i], other)
		}
	}
}

// The chapter's section 'Examples', as it stands there.
func TestChapterExamples(t *testing.T) {
	one, u := api.Fp2{A: api.Fp{1}}, api.Fp2{B: api.Fp{1}}
	sum := fp2.Add(one, u)
	for _, c := range []struct {
		a, root api.Fp2
		is      bool
	}{{fp2.Neg(one), fp2.Neg(u), true}, {fp2.Add(u, u), fp2.Neg(sum), true}, {sum, api.Fp2{}, false}} {
		if root, is := fp2root.Sqrt(c.a); root != c.root || is != c.is {
			t.Errorf("Sqrt of %X: %X, %v, want %X, %v", c.a, root, is, c.root, c.is)
		}
	}
	if fp2root.Sign(api.Fp2{A: api.Fp{2}, B: api.Fp{1}}) != 0 || fp2root.Sign(u) != 1 || !fp2root.Bigger(fp2.Sub(one, u)) {
		t.Error("Sign of 2 + u, Sign of u, or Bigger of 1 - u")
	}
}
