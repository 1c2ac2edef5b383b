package fproot_test

import (
	"math/big"
	"math/rand"
	"strings"
	"testing"

	"sigil/api"
	"sigil/fp"
	"sigil/fproot"
)

// size is how many words a number has.
const size = 6

// top is a word whose bits are all 1.
const top = 1<<64 - 1

// primeDigits are p, as fp's chapter writes it.
const primeDigits = "1A0111EA 397FE69A 4B1BA7B6 434BACD7 64774B84 F38512BF 6730D2A0 F6B0F624 1EABFFFE B153FFFF B9FEFFFF FFFFAAAB"

// prime is p.
func prime() *big.Int {
	p, _ := new(big.Int).SetString(strings.ReplaceAll(primeDigits, " ", ""), 16)
	return p
}

// number is what six words mean modulo p.
func number(a api.Fp) *big.Int {
	sum := new(big.Int)
	for i := size - 1; i >= 0; i-- {
		sum.Lsh(sum, 64)
		sum.Add(sum, new(big.Int).SetUint64(a[i]))
	}
	return sum.Mod(sum, prime())
}

// six are the six words of a number below 2^384.
func six(a *big.Int) api.Fp {
	var words api.Fp
	for i := range words {
		words[i] = new(big.Int).Rsh(a, uint(64*i)).Uint64()
	}
	return words
}

// near is so many times p, and a bit more or less.
func near(times, more int64) api.Fp {
	a := new(big.Int).Mul(prime(), big.NewInt(times))
	return six(a.Add(a, big.NewInt(more)))
}

// half is the greatest number below half of p, and a bit more or less.
func half(more int64) api.Fp {
	a := new(big.Int).Rsh(prime(), 1)
	return six(a.Add(a, big.NewInt(more)))
}

// square is a number's product with itself, below p, as the library reckons it.
func square(a api.Fp) api.Fp {
	product := new(big.Int).Mul(number(a), number(a))
	return six(product.Mod(product, prime()))
}

// opposite is 0 less a number, below p, as the library reckons it.
func opposite(a api.Fp) api.Fp {
	less := new(big.Int).Neg(number(a))
	return six(less.Mod(less, prime()))
}

// drawn are six words, many of which lie at the edges of a word.
func drawn(random *rand.Rand) api.Fp {
	var all api.Fp
	for i := range all {
		switch random.Intn(6) {
		case 0:
			all[i] = 0
		case 1:
			all[i] = top
		case 2:
			all[i] = 1 << random.Intn(64)
		default:
			all[i] = random.Uint64()
		}
	}
	return all
}

// samples are small numbers, those about all multiples of p that six words hold and about half of p, six words all 2^64 - 1, numbers of one bit, and drawn ones, below p and not.
func samples() []api.Fp {
	all := []api.Fp{{top, top, top, top, top, top}, {top - 1, top, top, top, top, top}, {top}, {0, 1}, {0, 0, 0, 1}, {5: top}}
	for small := range uint64(40) {
		all = append(all, api.Fp{small})
	}
	for times := range int64(10) {
		for more := int64(-4); more <= 9; more++ {
			if times > 0 || more >= 0 {
				all = append(all, near(times, more))
			}
		}
	}
	for more := int64(-3); more <= 4; more++ {
		all = append(all, half(more))
	}
	for bit := uint(5); bit < 384; bit += 9 {
		all = append(all, six(new(big.Int).Lsh(big.NewInt(1), bit)))
	}
	random := rand.New(rand.NewSource(5))
	for range 100 {
		all = append(all, drawn(random), six(new(big.Int).Rand(random, prime())))
	}
	return all
}

// isSquare is what the library says: 0, or of Jacobi's symbol 1.
func isSquare(a api.Fp) bool { return big.Jacobi(number(a), prime()) >= 0 }

// checkRoot holds one number to P5.1: Is and Sqrt say what the library says, and the root is below p, even, and a root.
func checkRoot(t *testing.T, a api.Fp) {
	t.Helper()
	want, wanted := api.Fp{}, isSquare(a)
	if wanted {
		root := new(big.Int).ModSqrt(number(a), prime())
		if root.Bit(0) == 1 {
			root.Sub(prime(), root)
		}
		want = six(root)
	}
	if got, is := fproot.Sqrt(a); got != want || is != wanted {
		t.Errorf("Sqrt of %X: %X, %v, want %X, %v", a, got, is, want, wanted)
	}
	if got := fproot.Is(a); got != wanted {
		t.Errorf("Is of %X: %v, want %v", a, got, wanted)
	}
}

// P5.1: the chapter's examples; 0, 1 and p - 1; squares whose even root is the smaller one and whose it is the greater one; numbers that are no squares.
func TestRootsOfExamples(t *testing.T) {
	for _, c := range []struct {
		a, root api.Fp
		is      bool
	}{
		{api.Fp{4}, api.Fp{2}, true},
		{api.Fp{}, api.Fp{}, true},
		{near(1, -1), api.Fp{}, false},
		{api.Fp{9}, near(1, -3), true},
		{api.Fp{1}, near(1, -1), true},
		{api.Fp{16}, api.Fp{4}, true},
		{api.Fp{25}, near(1, -5), true},
		{api.Fp{36}, api.Fp{6}, true},
		{api.Fp{49}, near(1, -7), true},
		{api.Fp{2}, api.Fp{}, false},
		{near(1, -4), api.Fp{}, false},
		{near(1, -9), api.Fp{}, false},
		{api.Fp{0, 0, 1}, api.Fp{0, 1}, true},
		{square(half(0)), half(1), true},
		{square(half(1)), half(1), true},
	} {
		if got, is := fproot.Sqrt(c.a); got != c.root || is != c.is {
			t.Errorf("Sqrt of %X: %X, %v, want %X, %v", c.a, got, is, c.root, c.is)
		}
		if is := fproot.Is(c.a); is != c.is {
			t.Errorf("Is of %X: %v, want %v", c.a, is, c.is)
		}
		checkRoot(t, c.a)
	}
}

// P5.1: six words that are not below p count for their number modulo p: p's multiples for 0, what is a bit above or below them, six words all 2^64 - 1.
func TestRootsOfWordsNotBelowP(t *testing.T) {
	for times := int64(1); times < 10; times++ {
		for _, c := range []struct {
			more int64
			root api.Fp
			is   bool
		}{
			{0, api.Fp{}, true},
			{1, near(1, -1), true},
			{2, api.Fp{}, false},
			{4, api.Fp{2}, true},
			{9, near(1, -3), true},
			{-1, api.Fp{}, false},
			{-4, api.Fp{}, false},
		} {
			a := near(times, c.more)
			if got, is := fproot.Sqrt(a); got != c.root || is != c.is {
				t.Errorf("Sqrt of %d p and %d: %X, %v, want %X, %v", times, c.more, got, is, c.root, c.is)
			}
			if is := fproot.Is(a); is != c.is {
				t.Errorf("Is of %d p and %d: %v, want %v", times, c.more, is, c.is)
			}
		}
		checkRoot(t, near(times, 3))
	}
	checkRoot(t, api.Fp{top, top, top, top, top, top})
}

// P5.1: all samples, and drawn numbers, as the library says.
func TestRootsOfSamples(t *testing.T) {
	for _, a := range samples() {
		checkRoot(t, a)
	}
	random := rand.New(rand.NewSource(6))
	for range 1000 {
		checkRoot(t, drawn(random))
	}
}

// P5.1: of the samples' squares, among which those whose even root is the smaller one and those whose it is the greater one must both be.
func TestRootsOfSquares(t *testing.T) {
	smaller, greater := 0, 0
	for _, a := range samples() {
		checkRoot(t, square(a))
		checkRoot(t, opposite(square(a)))
		root, is := fproot.Sqrt(square(a))
		if !is {
			t.Errorf("%X's square has no root", a)
		}
		switch root2 := new(big.Int).Lsh(number(root), 1); root2.Cmp(prime()) {
		case -1:
			smaller++
		case 1:
			greater++
		}
	}
	if smaller < 50 || greater < 50 {
		t.Errorf("%d even roots are the smaller one, %d the greater one", smaller, greater)
	}
}

// R2: beside a false the root is 0, of words that are not below p too.
func TestNoRootBesideFalse(t *testing.T) {
	none := 0
	for _, a := range samples() {
		if isSquare(a) {
			continue
		}
		none++
		if got, is := fproot.Sqrt(a); is || got != (api.Fp{}) {
			t.Errorf("%X: %X, %v", a, got, is)
		}
	}
	if none < 50 {
		t.Errorf("only %d samples are no squares", none)
	}
}

// P5.2: the chapter's examples; 0, 1, p - 1, the numbers nearest to half of p, and words that are not below p.
func TestSidesOfExamples(t *testing.T) {
	for _, c := range []struct {
		name   string
		a      api.Fp
		sign   int
		bigger bool
	}{
		{"0", api.Fp{}, 0, false},
		{"1", api.Fp{1}, 1, false},
		{"2", api.Fp{2}, 0, false},
		{"2^64", api.Fp{0, 1}, 0, false},
		{"2^64 - 1", api.Fp{top}, 1, false},
		{"p - 1", near(1, -1), 0, true},
		{"p - 2", near(1, -2), 1, true},
		{"p", near(1, 0), 0, false},
		{"p + 1", near(1, 1), 1, false},
		{"p + 2", near(1, 2), 0, false},
		{"p + 3", near(1, 3), 1, false},
		{"2 p - 1", near(2, -1), 0, true},
		{"2 p - 2", near(2, -2), 1, true},
		{"2 p", near(2, 0), 0, false},
		{"2 p + 1", near(2, 1), 1, false},
		{"9 p", near(9, 0), 0, false},
		{"9 p + 1", near(9, 1), 1, false},
		{"(p - 3) / 2", half(-1), 0, false},
		{"(p - 1) / 2", half(0), 1, false},
		{"(p + 1) / 2", half(1), 0, true},
		{"(p + 3) / 2", half(2), 1, true},
	} {
		if got := fproot.Sign(c.a); got != c.sign {
			t.Errorf("Sign of %s: %d, want %d", c.name, got, c.sign)
		}
		if got := fproot.Bigger(c.a); got != c.bigger {
			t.Errorf("Bigger of %s: %v, want %v", c.name, got, c.bigger)
		}
	}
}

// checkSides holds one number to P5.2, as the library reckons it.
func checkSides(t *testing.T, a api.Fp) {
	t.Helper()
	if got, want := fproot.Sign(a), int(number(a).Bit(0)); got != want {
		t.Errorf("Sign of %X: %d, want %d", a, got, want)
	}
	if got, want := fproot.Bigger(a), number(a).Cmp(number(opposite(a))) > 0; got != want {
		t.Errorf("Bigger of %X: %v, want %v", a, got, want)
	}
}

// P5.2: all samples (six words all 2^64 - 1 among them), drawn numbers, and such as have the half of p's highest words, or differ from it in one.
func TestSidesOfSamples(t *testing.T) {
	for _, a := range samples() {
		checkSides(t, a)
	}
	random := rand.New(rand.NewSource(7))
	for range 20000 {
		a := drawn(random)
		checkSides(t, a)
		edge, from := half(0), random.Intn(size)
		copy(a[from:], edge[from:])
		checkSides(t, a)
		edge[random.Intn(size)] += uint64(random.Intn(3)) - 1
		checkSides(t, edge)
	}
}

// P5.2: of a number and its opposite just one is odd, and just one the bigger; of 0 none.
func TestSidesOfOpposites(t *testing.T) {
	for _, a := range samples() {
		other := fp.Neg(a)
		want := 1
		if fp.Reduce(a) == (api.Fp{}) {
			want = 0
		}
		if got := fproot.Sign(a) + fproot.Sign(other); got != want {
			t.Errorf("%X and its opposite: %d are odd, want %d", a, got, want)
		}
		if (fproot.Bigger(a) != fproot.Bigger(other)) != (want == 1) {
			t.Errorf("%X: bigger %v, and its opposite %v", a, fproot.Bigger(a), fproot.Bigger(other))
		}
	}
}

// P5.3: a square's roots are the even one and its opposite, whose squares are the number, and no third.
func TestRootsAreTheEvenOneAndItsOpposite(t *testing.T) {
	for _, a := range samples() {
		root, is := fproot.Sqrt(fp.Mul(a, a))
		if !is || fproot.Sign(root) != 0 || fp.Reduce(root) != root {
			t.Errorf("%X's square: %X, %v", a, root, is)
		}
		if x := fp.Reduce(a); x != root && x != fp.Neg(root) {
			t.Errorf("%X is none of its square's roots, %X and its opposite", a, root)
		}
		if back := fp.Neg(root); fp.Mul(back, back) != fp.Mul(a, a) {
			t.Errorf("%X's square: the opposite of %X is no root", a, root)
		}
	}
}

// P5.3: a product is a square just if both numbers are, or none, or one is 0; and two squares' product has their roots' product for a root.
func TestProductsOfSquares(t *testing.T) {
	var squares, others []api.Fp
	for _, a := range samples() {
		switch {
		case fp.Reduce(a) == (api.Fp{}):
		case fproot.Is(a):
			squares = append(squares, a)
		default:
			others = append(others, a)
		}
	}
	zeros := []api.Fp{{}, near(1, 0), near(9, 0)}
	both := func(these, those []api.Fp, want bool) {
		t.Helper()
		random := rand.New(rand.NewSource(8))
		for range 500 {
			a, b := these[random.Intn(len(these))], those[random.Intn(len(those))]
			if got := fproot.Is(fp.Mul(a, b)); got != want {
				t.Errorf("%X times %X: %v, want %v", a, b, got, want)
			}
			if _, got := fproot.Sqrt(fp.Mul(a, b)); got != want {
				t.Errorf("the root of %X times %X: %v, want %v", a, b, got, want)
			}
		}
	}
	both(squares, squares, true)
	both(others, others, true)
	both(squares, others, false)
	both(zeros, squares, true)
	both(zeros, others, true)
	both(zeros, zeros, true)
	for i, a := range squares {
		b := squares[len(squares)-1-i]
		x, _ := fproot.Sqrt(a)
		y, _ := fproot.Sqrt(b)
		product := fp.Mul(x, y)
		if got, _ := fproot.Sqrt(fp.Mul(a, b)); got != product && got != fp.Neg(product) {
			t.Errorf("%X times %X: %X, and their roots' product %X", a, b, got, product)
		}
	}
}

// P5.3: -1 is no square: of a number and its opposite just one is, unless they are 0, which is one.
func TestOppositesOfSquares(t *testing.T) {
	if fproot.Is(fp.Neg(api.Fp{1})) {
		t.Error("-1 is a square")
	}
	for _, a := range samples() {
		is, other := fproot.Is(a), fproot.Is(fp.Neg(a))
		if zero := fp.Reduce(a) == (api.Fp{}); is == other && !zero || zero && !(is && other) {
			t.Errorf("%X: %v, and its opposite: %v", a, is, other)
		}
	}
}

// R5: asked again, in whatever order, and with another six words for the same number, a call answers the same.
func TestAnswersHangOnTheNumberAlone(t *testing.T) {
	type answer struct {
		is, rooted, bigger bool
		root               api.Fp
		sign               int
	}
	ask := func(a api.Fp) answer {
		root, rooted := fproot.Sqrt(a)
		return answer{fproot.Is(a), rooted, fproot.Bigger(a), root, fproot.Sign(a)}
	}
	all := samples()
	first := make([]answer, len(all))
	for i, a := range all {
		first[i] = ask(a)
	}
	for i := len(all) - 1; i >= 0; i-- {
		if again := ask(all[i]); again != first[i] {
			t.Errorf("%X: %v, and asked again %v", all[i], first[i], again)
		}
		if other := ask(six(new(big.Int).Add(number(all[i]), prime()))); other != first[i] {
			t.Errorf("%X: %v, and with p added %v", all[i], first[i], other)
		}
	}
}
