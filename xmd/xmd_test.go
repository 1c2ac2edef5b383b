package xmd_test

import (
	"bytes"
	"crypto/sha256"
	"encoding/hex"
	"math"
	"math/big"
	"math/rand"
	"slices"
	"strings"
	"sync"
	"testing"

	"sigil/api"
	"sigil/fp"
	"sigil/limb"
	"sigil/sha"
	"sigil/xmd"
)

const (
	// maxBytes is the chapter's greatest n.
	maxBytes = 8160
	// maxCount is the chapter's greatest count.
	maxCount = 63
	// numberSize is how many bytes a number is made of.
	numberSize = 128
	// expanderTag and curveTag are the tags of RFC 9380's examples.
	expanderTag = "QUUX-V01-CS02-with-expander-SHA256-128"
	curveTag    = "QUUX-V01-CS02-with-BLS12381G2_XMD:SHA-256_SSWU_RO_"
	// primeDigits are p, as chapter 4 writes it.
	primeDigits = "1A0111EA 397FE69A 4B1BA7B6 434BACD7 64774B84 F38512BF 6730D2A0 F6B0F624 1EABFFFE B153FFFF B9FEFFFF FFFFAAAB"
)

var (
	// messageSizes are how many bytes the tests' messages have: none, one, such as fill a block of sha's just, nearly and once over, and many.
	messageSizes = []int{0, 1, 2, 31, 32, 33, 55, 56, 63, 64, 65, 127, 128, 129, 1000, 100_000}
	// tagSizes are how many bytes the tests' tags have: the chapter's edges, and some between.
	tagSizes = []int{1, 2, 16, 31, 32, 38, 43, 50, 63, 64, 65, 127, 128, 129, 253, 254, 255}
	// wanted are how many bytes are asked for: the edges, the ends of the first sums, and those whose two bytes tell something.
	wanted = []int{1, 2, 31, 32, 33, 63, 64, 65, 95, 96, 97, 128, 255, 256, 257, 258, 511, 512, 513, 1000, 4096, 8064, 8127, 8128, 8129, 8159, 8160}
	// wrongNumbers are those of bytes that may not be.
	wrongNumbers = []int{
		math.MinInt, math.MinInt + 1, math.MinInt32, -1 << 16, -8161, -8160, -256, -32, -2, -1, 0,
		8161, 8162, 8191, 8192, 1 << 16, 1<<16 + 1, 1<<16 + 32, math.MaxInt32, 1 << 32, 1<<32 + 1, math.MaxInt - 1, math.MaxInt,
	}
	// wrongCounts are those of numbers that may not be; of many of them 128 times as many are more, or less, than an int holds, and what is left of that in one may be.
	wrongCounts = []int{
		math.MinInt, math.MinInt + 1, math.MinInt + 2, math.MinInt + 63, math.MinInt32, -1<<57 + 1, -1 << 57, -1 << 56, -1<<56 - 1, -64, -63, -2, -1, 0,
		64, 65, 127, 128, 8160, 8161, 1 << 16, 1 << 25, 1<<25 + 1, math.MaxInt32, math.MaxInt / 128, math.MaxInt/128 + 1, 1<<57 - 1, 1 << 57, 1<<57 + 1, 1<<57 + 63, 1<<58 + 2, 3<<57 + 1, math.MaxInt - 1, math.MaxInt,
	}
	// wrongTags are those that may not be.
	wrongTags = [][]byte{nil, {}, sample(9)[:0], make([]byte, 256), sample(256), sample(257), sample(511), sample(512), sample(513), sample(1 << 16)}
)

// sample are n bytes that repeat nowhere soon; the same ones each time.
func sample(n int) []byte {
	b := make([]byte, n)
	rand.New(rand.NewSource(int64(n))).Read(b)
	return b
}

// unhex are the bytes that a text tells, its blanks left out.
func unhex(t *testing.T, text string) []byte {
	t.Helper()
	b, err := hex.DecodeString(strings.ReplaceAll(text, " ", ""))
	if err != nil {
		t.Fatal(err)
	}
	return b
}

// prime is p.
func prime() *big.Int {
	p, _ := new(big.Int).SetString(strings.ReplaceAll(primeDigits, " ", ""), 16)
	return p
}

// octets are a number's 48 bytes, its words read one by one.
func octets(a api.Fp) []byte {
	var b []byte
	for _, word := range slices.Backward(a[:]) {
		for shift := 56; shift >= 0; shift -= 8 {
			b = append(b, byte(word>>shift))
		}
	}
	return b
}

// left are the 48 bytes of what the library leaves of bytes' number modulo p.
func left(b []byte) []byte {
	a := new(big.Int).SetBytes(b)
	return a.Mod(a, prime()).FillBytes(make([]byte, 48))
}

// gone are the bytes that P17.1's words make, gone through one by one with the sum that is given.
func gone(sum func(b []byte) [32]byte, msg, dst []byte, n int) []byte {
	tag := slices.Concat(dst, []byte{byte(len(dst))})
	b0 := sum(slices.Concat(make([]byte, 64), msg, []byte{byte(n / 256), byte(n % 256)}, []byte{0}, tag))
	ahead := sum(slices.Concat(b0[:], []byte{1}, tag))
	all := slices.Clone(ahead[:])
	for i := 2; len(all) < n; i++ {
		var less [32]byte
		for at := range less {
			less[at] = b0[at] ^ ahead[at]
		}
		ahead = sum(slices.Concat(less[:], []byte{byte(i)}, tag))
		all = slices.Concat(all, ahead[:])
	}
	return all[:n]
}

// ownSum is sha's sum.
func ownSum(b []byte) [32]byte { return sha.Sum(b) }

// expanded are Expand's bytes, where there should be no error.
func expanded(t *testing.T, msg, dst []byte, n int) []byte {
	t.Helper()
	b, e := xmd.Expand(msg, dst, n)
	if e != api.OK {
		t.Fatalf("message of %d bytes, tag of %d, n %d: %v", len(msg), len(dst), n, e)
	}
	return b
}

// fields are Fields' numbers, where there should be no error.
func fields(t *testing.T, msg, dst []byte, count int) []api.Fp2 {
	t.Helper()
	all, e := xmd.Fields(msg, dst, count)
	if e != api.OK {
		t.Fatalf("message of %d bytes, tag of %d, count %d: %v", len(msg), len(dst), count, e)
	}
	return all
}

// flip turns all bits of a list's bytes, those of its spare room too.
func flip(b []byte) {
	for i := range b[:cap(b)] {
		b[:cap(b)][i] ^= 255
	}
}

// spoil changes all parts of a list's numbers, those of its spare room too.
func spoil(all []api.Fp2) {
	for i := range all[:cap(all)] {
		number := &all[:cap(all)][i]
		number.A[0] ^= 255
		number.B[5] ^= 255
	}
}

// checkExpand holds one Expand to the chapter's words.
func checkExpand(t *testing.T, msg, dst []byte, n int) {
	t.Helper()
	if got, want := expanded(t, msg, dst, n), gone(ownSum, msg, dst, n); !bytes.Equal(got, want) {
		t.Errorf("message of %d bytes, tag of %d, n %d: %d bytes %.64X, want %d bytes %.64X", len(msg), len(dst), n, len(got), got, len(want), want)
	}
}

// P17.1: the chapter's examples of errors, and RFC 9380's, whose first one is the chapter's.
func TestExpandExamples(t *testing.T) {
	for _, c := range []struct {
		msg  string
		want string
	}{
		{"", "68A985B8 7EB6B469 52128911F2A4412BBC302A9D759667F87F7A21D803F07235"},
		{"abc", "D8CCAB23B5985CCEA865C6C97B6E5B8350E794E603B4B97902F53A8A0D605615"},
		{"abcdef0123456789", "EFF31487C770A893CFB36F912FBFCBFF40D5661771CA4B2CB4EAFE524333F5C1"},
		{"q128_" + strings.Repeat("q", 128), "B23A1D2B4D97B2EF7785562A7E8BAC7EED54ED6E97E29AA51BFE3F12DDAD1FF9"},
		{"a512_" + strings.Repeat("a", 512), "4623227BCC01293B8C130BF771DA8C298DEDE7383243DC0993D2D94823958C4C"},
		{"", "AF84C27CCFD45D41914FDFF5DF25293E221AFC53D8AD2AC06D5E3E29485DADBE E0D121587713A3E0DD4D5E69E93EB7CD4F5DF4CD103E188CF60CB02EDC3EDF18 EDA8576C412B18FFB658E3DD6EC849469B979D444CF7B26911A08E63CF31F9DC C541708D3491184472C2C29BB749D4286B004CEB5EE6B9A7FA5B646C993F0CED"},
		{"abc", "ABBA86A6129E366FC877AAB32FC4FFC70120D8996C88AEE2FE4B32D6C7B6437A 647E6C3163D40B76A73CF6A5674EF1D890F95B664EE0AFA5359A5C4E07985635 BBECBAC65D747D3D2DA7EC2B8221B17B0CA9DC8A1AC1C07EA6A1E60583E2CB00 058E77B7B72A298425CD1B941AD4EC65E8AFC50303A22C0F99B0509B4C895F40"},
	} {
		want := unhex(t, c.want)
		if got := expanded(t, []byte(c.msg), []byte(expanderTag), len(want)); !bytes.Equal(got, want) {
			t.Errorf("%.20q: %X, want %X", c.msg, got, want)
		}
	}
	for _, c := range []struct {
		dst  string
		n    int
		want api.Errno
	}{{"", 32, api.ErrXmdDst}, {"x", 0, api.ErrXmdLen}} {
		if got, e := xmd.Expand(nil, []byte(c.dst), c.n); len(got) != 0 || e != c.want {
			t.Errorf("tag %q, n %d: %X, %v", c.dst, c.n, got, e)
		}
	}
}

// P17.1: messages and tags of all lengths that count, for numbers of bytes that do, against the chapter's words.
func TestExpandIsItsSums(t *testing.T) {
	for _, m := range messageSizes {
		for _, d := range tagSizes {
			for _, n := range []int{1, 32, 33, 128, 257} {
				checkExpand(t, sample(m), sample(500 + d)[:d], n)
			}
		}
	}
	for _, m := range []int{0, 1, 64, 65} {
		for _, d := range []int{1, 43, 255} {
			for _, n := range wanted {
				checkExpand(t, sample(m), sample(500 + d)[:d], n)
			}
		}
	}
}

// P17.1: each number of bytes up to beyond the first sums, and about all ends of the others: just so many, the last of them cut from a sum.
func TestExpandMakesAsManyAsAreWanted(t *testing.T) {
	msg, dst := sample(20), []byte(expanderTag)
	for n := 1; n <= maxBytes; n++ {
		if n > 300 && n%32 > 1 && n%32 < 31 {
			continue
		}
		got := expanded(t, msg, dst, n)
		if len(got) != n {
			t.Errorf("n %d: %d bytes", n, len(got))
		}
		if want := gone(sha256.Sum256, msg, dst, n); !bytes.Equal(got, want) {
			t.Errorf("n %d: %.40X, want %.40X", n, got, want)
		}
	}
}

// P17.1: the last sum's bytes are its first ones, at every cut of it, as the words by the library's sums make it.
func TestTheLastSumIsCutAtItsEnd(t *testing.T) {
	msg, dst := sample(3), []byte("cut")
	for n := 65; n <= 96; n++ {
		b := expanded(t, msg, dst, n)
		all := gone(sha256.Sum256, msg, dst, n)
		if !bytes.Equal(b[64:], all[64:n]) || len(b[64:]) != n-64 {
			t.Errorf("n %d: %X", n, b[64:])
		}
	}
}

// P17.1: of how many bytes are wanted both bytes tell, the higher first: what they are told in the other order, or the lower one alone, makes other sums.
func TestTheNumbersTwoBytes(t *testing.T) {
	msg, dst := sample(12), []byte("two bytes")
	tag := append(slices.Clone(dst), byte(len(dst)))
	first := func(two ...byte) []byte {
		b0 := sha256.Sum256(slices.Concat(make([]byte, 64), msg, two, []byte{0}, tag))
		b1 := sha256.Sum256(slices.Concat(b0[:], []byte{1}, tag))
		return b1[:]
	}
	for _, n := range []int{32, 255, 256, 257, 258, 513, 0x1234, 8064, 8159, 8160} {
		high, low := byte(n>>8), byte(n)
		got := expanded(t, msg, dst, n)[:32]
		if !bytes.Equal(got, first(high, low)) {
			t.Errorf("n %d: its bytes are not told the higher first", n)
		}
		if high != low && bytes.Equal(got, first(low, high)) || high != 0 && bytes.Equal(got, first(0, low)) {
			t.Errorf("n %d: its bytes are told otherwise too", n)
		}
	}
}

// P17.1: each thirty-two bytes are the sum of the first sum's less those ahead, their number, and the tag, up to the 255th.
func TestEachSumIsMadeOfTheOneAhead(t *testing.T) {
	for _, d := range []int{1, 40, 255} {
		msg, dst := sample(77), sample(900 + d)[:d]
		tag := append(slices.Clone(dst), byte(d))
		b0 := sha.Sum(slices.Concat(make([]byte, 64), msg, []byte{0x1F, 0xE0, 0}, tag))
		all := expanded(t, msg, dst, maxBytes)
		ahead := make([]byte, 32)
		for i := 1; i <= 255; i++ {
			mixed := slices.Clone(ahead)
			for at := range mixed {
				mixed[at] ^= b0[at]
			}
			sum := sha.Sum(slices.Concat(mixed, []byte{byte(i)}, tag))
			if got := all[32*(i-1) : 32*i]; !bytes.Equal(got, sum[:]) {
				t.Errorf("tag of %d bytes, sum %d: %X, want %X", d, i, got, sum)
			}
			ahead = sum[:]
		}
	}
}

// P17.1: the tag's bytes, and how many they are, and the message's bytes all count: no two that differ make the same, not those either whose bytes one behind the other are the same.
func TestEachMessageAndTagMakesItsOwn(t *testing.T) {
	type asked struct{ msg, dst string }
	all := []asked{
		{"", "a"}, {"", "aa"}, {"", "a\x00"}, {"", "a\x01"}, {"", "\x00"}, {"", "\x00\x00"}, {"", "\x01"}, {"\x00", "a"}, {"\x00\x00", "a"},
		{"a", "a"}, {"a", "b"}, {"b", "a"}, {"ab", "c"}, {"a", "bc"}, {"abc", "d"}, {"ab", "cd"}, {"a", "bcd"}, {"", "abcd"},
		{strings.Repeat("x", 64), "a"}, {strings.Repeat("x", 63), "xa"}, {"", strings.Repeat("x", 255)}, {"", strings.Repeat("x", 254)}, {"x", strings.Repeat("x", 254)},
		{strings.Repeat("\x00", 64), "a"}, {"a\x00\x20\x00a\x01", "a"},
	}
	seen := map[string]asked{}
	for _, c := range all {
		b := string(expanded(t, []byte(c.msg), []byte(c.dst), 32))
		if other, is := seen[b]; is {
			t.Errorf("%q and %q make the same", c, other)
		}
		seen[b] = c
		checkExpand(t, []byte(c.msg), []byte(c.dst), 32)
	}
}

// P17.1: a tag of 1 to 255 bytes may be, of any bytes.
func TestExpandOfAllTags(t *testing.T) {
	for d := 1; d <= 255; d++ {
		checkExpand(t, sample(5), sample(d), 40)
		checkExpand(t, nil, bytes.Repeat([]byte{byte(d)}, d), 33)
		checkExpand(t, nil, make([]byte, d), 32)
		checkExpand(t, nil, bytes.Repeat([]byte{255}, d), 32)
	}
}

// P17.1, R2: tags that may not be, whatever message and number there are, those that may not be either too: ErrXmdDst, and no bytes beside it.
func TestExpandOfWrongTags(t *testing.T) {
	for _, dst := range wrongTags {
		for _, n := range append(slices.Clone(wanted), wrongNumbers...) {
			for _, msg := range [][]byte{nil, sample(10)} {
				if got, e := xmd.Expand(msg, dst, n); len(got) != 0 || e != api.ErrXmdDst {
					t.Errorf("tag of %d bytes, n %d: %d bytes, %v", len(dst), n, len(got), e)
				}
			}
		}
	}
}

// P17.1, R2: numbers that may not be, whatever message and tag there are: ErrXmdLen, and no bytes beside it.
func TestExpandOfWrongNumbers(t *testing.T) {
	for _, n := range wrongNumbers {
		for _, d := range []int{1, 38, 255} {
			for _, msg := range [][]byte{nil, {}, sample(10), sample(64)} {
				if got, e := xmd.Expand(msg, sample(d), n); len(got) != 0 || e != api.ErrXmdLen {
					t.Errorf("tag of %d bytes, n %d: %d bytes, %v", d, n, len(got), e)
				}
			}
		}
	}
}

// The errors' numbers are the chapter's.
func TestErrorsAreTheChapters(t *testing.T) {
	if api.ErrXmdDst != 170 || api.ErrXmdLen != 171 {
		t.Errorf("%d, %d", int(api.ErrXmdDst), int(api.ErrXmdLen))
	}
}

// P17.2: RFC 9380's examples of numbers.
func TestFieldsExamples(t *testing.T) {
	for _, c := range []struct {
		msg  string
		want [4]string
	}{
		{"", [4]string{
			"03dbc2cce174e91ba93cbb08f26b917f98194a2ea08d1cce75b2b9cc9f21689d80bd79b594a613d0a68eb807dfdc1cf8",
			"05a2acec64114845711a54199ea339abd125ba38253b70a92c876df10598bd1986b739cad67961eb94f7076511b3b39a",
			"02f99798e8a5acdeed60d7e18e9120521ba1f47ec090984662846bc825de191b5b7641148c0dbc237726a334473eee94",
			"145a81e418d4010cc027a68f14391b30074e89e60ee7a22f87217b2f6eb0c4b94c9115b436e6fa4607e95a98de30a435",
		}},
		{"abc", [4]string{
			"15f7c0aa8f6b296ab5ff9c2c7581ade64f4ee6f1bf18f55179ff44a2cf355fa53dd2a2158c5ecb17d7c52f63e7195771",
			"01c8067bf4c0ba709aa8b9abc3d1cef589a4758e09ef53732d670fd8739a7274e111ba2fcaa71b3d33df2a3a0c8529dd",
			"187111d5e088b6b9acfdfad078c4dacf72dcd17ca17c82be35e79f8c372a693f60a033b461d81b025864a0ad051a06e4",
			"08b852331c96ed983e497ebc6dee9b75e373d923b729194af8e72a051ea586f3538a6ebb1e80881a082fa2b24df9f566",
		}},
	} {
		all := fields(t, []byte(c.msg), []byte(curveTag), 2)
		if len(all) != 2 {
			t.Fatalf("%q: %d numbers", c.msg, len(all))
		}
		for i, part := range []api.Fp{all[0].A, all[0].B, all[1].A, all[1].B} {
			if got := octets(part); !bytes.Equal(got, unhex(t, c.want[i])) {
				t.Errorf("%q, part %d: %X, want %s", c.msg, i, got, c.want[i])
			}
		}
	}
}

// checkFields holds one Fields to the chapter's words: its parts' bytes are what the library leaves of Expand's, modulo p.
func checkFields(t *testing.T, msg, dst []byte, count int) {
	t.Helper()
	all, b := fields(t, msg, dst, count), expanded(t, msg, dst, numberSize*count)
	if len(all) != count {
		t.Fatalf("count %d: %d numbers", count, len(all))
	}
	if words := gone(sha256.Sum256, msg, dst, numberSize*count); !bytes.Equal(b, words) {
		t.Fatalf("count %d: Expand's bytes are not the words'", count)
	}
	for i, number := range all {
		of := b[numberSize*i:]
		if !bytes.Equal(octets(number.A), left(of[:64])) || !bytes.Equal(octets(number.B), left(of[64:128])) {
			t.Errorf("message of %d bytes, tag of %d, number %d of %d: %X", len(msg), len(dst), i, count, number)
		}
	}
}

// P17.2: each number's A of the first 64 bytes of its 128, B of the others, for all messages, tags and counts that matter.
func TestFieldsAreExpandsBytes(t *testing.T) {
	for _, m := range messageSizes {
		for _, d := range []int{1, 43, 255} {
			for _, count := range []int{1, 2, 3} {
				checkFields(t, sample(m), sample(500 + d)[:d], count)
			}
		}
	}
	for _, d := range tagSizes {
		checkFields(t, sample(d), sample(500 + d)[:d], 2)
	}
	for count := 1; count <= maxCount; count++ {
		checkFields(t, sample(count), []byte(curveTag), count)
	}
}

// P17.2: A and B by fp and limb, the calls below.
func TestFieldsByTheCallsBelow(t *testing.T) {
	msg, dst := []byte("calls below"), []byte(curveTag)
	for _, count := range []int{1, 2, 3, maxCount} {
		b := expanded(t, msg, dst, numberSize*count)
		for i, number := range fields(t, msg, dst, count) {
			of := b[numberSize*i : numberSize*(i+1)]
			if want := (api.Fp2{A: fp.Wide(limb.Words(of[:64])), B: fp.Wide(limb.Words(of[64:]))}); number != want {
				t.Errorf("number %d of %d: %X, want %X", i, count, number, want)
			}
		}
	}
}

// P17.2: all parts are below p, though hardly any part's bytes are.
func TestPartsAreBelowP(t *testing.T) {
	p := prime()
	for m := range 40 {
		for i, number := range fields(t, sample(m), []byte("below p"), maxCount) {
			for _, part := range []api.Fp{number.A, number.B} {
				if new(big.Int).SetBytes(octets(part)).Cmp(p) >= 0 {
					t.Errorf("message of %d bytes, number %d: %X", m, i, part)
				}
			}
		}
	}
}

// P17.2, R2: tags that may not be, whatever message and count there are, those that may not be either too: ErrXmdDst, and no numbers beside it.
func TestFieldsOfWrongTags(t *testing.T) {
	for _, dst := range wrongTags {
		for _, count := range append([]int{1, 2, 3, maxCount}, wrongCounts...) {
			for _, msg := range [][]byte{nil, sample(10)} {
				if got, e := xmd.Fields(msg, dst, count); len(got) != 0 || e != api.ErrXmdDst {
					t.Errorf("tag of %d bytes, count %d: %d numbers, %v", len(dst), count, len(got), e)
				}
			}
		}
	}
}

// P17.2, R2: counts that may not be, those too where 128 times as many are more than an int holds: ErrXmdLen, and no numbers beside it.
func TestFieldsOfWrongCounts(t *testing.T) {
	for _, count := range wrongCounts {
		for _, d := range []int{1, 50, 255} {
			for _, msg := range [][]byte{nil, {}, sample(10)} {
				if got, e := xmd.Fields(msg, sample(d), count); len(got) != 0 || e != api.ErrXmdLen {
					t.Errorf("tag of %d bytes, count %d: %d numbers, %v", d, count, len(got), e)
				}
			}
		}
	}
}

// P17.3: fewer bytes are not the beginning of more.
func TestFewerBytesAreNotTheBeginning(t *testing.T) {
	for _, msg := range [][]byte{nil, sample(1), sample(64), sample(1000)} {
		for _, d := range []int{1, 50, 255} {
			dst := sample(d)
			var ahead [][]byte
			for n := 8; n <= maxBytes; n += 1 + n/5 {
				b := expanded(t, msg, dst, n)
				for _, fewer := range ahead {
					if bytes.HasPrefix(b, fewer[:8]) {
						t.Errorf("message of %d bytes, tag of %d: %d bytes begin as %d do", len(msg), d, n, len(fewer))
					}
				}
				ahead = append(ahead, b)
			}
		}
	}
}

// P17.3: nor are fewer numbers.
func TestFewerNumbersAreNotTheBeginning(t *testing.T) {
	seen := map[api.Fp]int{}
	for count := 1; count <= maxCount; count++ {
		for _, number := range fields(t, sample(9), []byte(curveTag), count) {
			for _, part := range []api.Fp{number.A, number.B} {
				if other := seen[part]; other != 0 {
					t.Errorf("count %d: a part as of %d", count, other)
				}
				seen[part] = count
			}
		}
	}
}

// R4: no call changes what it is handed, nor its spare room; where the message stands just behind the tag, or both are one memory, too.
func TestArgumentsStay(t *testing.T) {
	for _, d := range []int{1, 31, 38, 64, 254, 255} {
		room := sample(d + 400)
		before := slices.Clone(room)
		for _, msg := range [][]byte{room[d:d], room[d : d+1], room[d : d+65], room[:d], room[:d+10], room[1:1], nil} {
			dst := room[:d]
			apart, tag := slices.Clip(slices.Clone(msg)), slices.Clip(slices.Clone(dst))
			for _, n := range []int{1, 32, 100, 256} {
				if !bytes.Equal(expanded(t, msg, dst, n), expanded(t, apart, tag, n)) {
					t.Errorf("tag of %d bytes, message of %d, n %d: spare room makes other bytes", d, len(msg), n)
				}
			}
			if !slices.Equal(fields(t, msg, dst, 2), fields(t, apart, tag, 2)) {
				t.Errorf("tag of %d bytes, message of %d: spare room makes other numbers", d, len(msg))
			}
			if !bytes.Equal(room, before) {
				t.Fatalf("tag of %d bytes, message of %d: an argument changed, or its spare room", d, len(msg))
			}
		}
	}
}

// R3, R4: a call that answers an error changes nothing that it is handed, nor its spare room.
func TestArgumentsStayBesideErrors(t *testing.T) {
	room := sample(700)
	before := slices.Clone(room)
	for _, d := range []int{0, 1, 255, 256, 300} {
		for _, n := range wrongNumbers {
			if _, e := xmd.Expand(room[d:d+50], room[:d], n); e == api.OK {
				t.Errorf("tag of %d bytes, n %d: no error", d, n)
			}
		}
		for _, count := range wrongCounts {
			if _, e := xmd.Fields(room[d:d+50], room[:d], count); e == api.OK {
				t.Errorf("tag of %d bytes, count %d: no error", d, count)
			}
		}
	}
	if !bytes.Equal(room, before) {
		t.Error("an argument changed, or its spare room")
	}
}

// R4: what Expand answers is memory of its own, spare room too: not the arguments', nor another answer's.
func TestExpandHasMemoryOfItsOwn(t *testing.T) {
	for _, n := range []int{1, 31, 32, 33, 64, 100, 8159, maxBytes} {
		msg, dst := sample(64), sample(40)
		msgBefore, dstBefore := slices.Clone(msg), slices.Clone(dst)
		first, second := expanded(t, msg, dst, n), expanded(t, msg, dst, n)
		want := slices.Clone(second)
		flip(first)
		if !bytes.Equal(msg, msgBefore) || !bytes.Equal(dst, dstBefore) || !bytes.Equal(second, want) {
			t.Errorf("n %d: the answer shares memory with an argument, or with another answer", n)
		}
		if third := expanded(t, msg, dst, n); !bytes.Equal(third, want) {
			t.Errorf("n %d: asked again, the answer is another", n)
		}
		flip(msg)
		flip(dst)
		if !bytes.Equal(second, want) {
			t.Errorf("n %d: an argument was kept", n)
		}
	}
}

// R4: what Fields answers is memory of its own, spare room too.
func TestFieldsHaveMemoryOfTheirOwn(t *testing.T) {
	for _, count := range []int{1, 2, 3, maxCount} {
		msg, dst := sample(64), sample(40)
		msgBefore, dstBefore := slices.Clone(msg), slices.Clone(dst)
		first, second := fields(t, msg, dst, count), fields(t, msg, dst, count)
		want := slices.Clone(second)
		spoil(first)
		if !bytes.Equal(msg, msgBefore) || !bytes.Equal(dst, dstBefore) || !slices.Equal(second, want) {
			t.Errorf("count %d: the answer shares memory with an argument, or with another answer", count)
		}
		if third := fields(t, msg, dst, count); !slices.Equal(third, want) {
			t.Errorf("count %d: asked again, the answer is another", count)
		}
		flip(msg)
		flip(dst)
		if !slices.Equal(second, want) {
			t.Errorf("count %d: an argument was kept", count)
		}
	}
}

// R4: a message of no byte may be nil or not, and does the same.
func TestNilIsNone(t *testing.T) {
	dst := []byte(expanderTag)
	for _, none := range [][]byte{{}, sample(9)[:0], sample(9)[9:]} {
		if !bytes.Equal(expanded(t, nil, dst, 40), expanded(t, none, dst, 40)) || !slices.Equal(fields(t, nil, dst, 3), fields(t, none, dst, 3)) {
			t.Error("nil is told from none")
		}
	}
}

// asking is one call of Expand and one of Fields.
type asking struct {
	msg, dst []byte
	n, count int
}

// askings are calls that may be, and such as may not.
func askings() []asking {
	var all []asking
	for i, n := range append(slices.Clone(wanted), 0, -1, 8161) {
		all = append(all, asking{sample(7 * i), sample(3*i + 1), n, n % 70}, asking{sample(i), sample(200 + 3*i), n, 1 + n%50})
	}
	return all
}

// told is what both calls answer, as one text.
func (a asking) told() string {
	b, e := xmd.Expand(a.msg, a.dst, a.n)
	text := string(b) + e.Error()
	all, e := xmd.Fields(a.msg, a.dst, a.count)
	for _, number := range all {
		text += string(octets(number.A)) + string(octets(number.B))
	}
	return text + e.Error()
}

// R5: the same answers when asked again, in whatever order, and by many at once.
func TestTheSameAnswersAgain(t *testing.T) {
	all := askings()
	var want []string
	for _, a := range all {
		want = append(want, a.told())
	}
	random := rand.New(rand.NewSource(17))
	for range 3 {
		for _, i := range random.Perm(len(all)) {
			if all[i].told() != want[i] {
				t.Errorf("asking %d: asked again, the answer is another", i)
			}
		}
	}
	var group sync.WaitGroup
	for i, a := range all {
		group.Go(func() {
			if a.told() != want[i] {
				t.Errorf("asking %d: asked at once with others, the answer is another", i)
			}
		})
	}
	group.Wait()
}
