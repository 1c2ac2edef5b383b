package hkdf_test

import (
	"bytes"
	library "crypto/hkdf"
	"crypto/hmac"
	"crypto/sha256"
	"encoding/hex"
	"math"
	"math/rand"
	"slices"
	"strings"
	"testing"

	"sigil/api"
	"sigil/hkdf"
	"sigil/sha"
)

// maxBytes is the chapter's greatest n.
const maxBytes = 8160

// keyLengths are a key of none, and those about the ends of one block and of two.
var keyLengths = []int{0, 1, 2, 31, 32, 33, 62, 63, 64, 65, 66, 96, 127, 128, 129, 131, 200, 1000}

// sample are n bytes that repeat nowhere soon; the same ones each time.
func sample(n int) []byte {
	b := make([]byte, n)
	rand.New(rand.NewSource(int64(n))).Read(b)
	return b
}

// unhex are the bytes that a text tells, its blanks left out.
func unhex(t *testing.T, text string) []byte {
	t.Helper()
	b, err := hex.DecodeString(strings.ReplaceAll(text, " ", ""))
	if err != nil {
		t.Fatal(err)
	}
	return b
}

// tail is a key with so many bytes 0 behind it.
func tail(key []byte, zeros int) []byte {
	return slices.Concat(key, make([]byte, zeros))
}

// libraryMac is the library's keyed sum.
func libraryMac(key, b []byte) api.Digest {
	h := hmac.New(sha256.New, key)
	h.Write(b)
	return api.Digest(h.Sum(nil))
}

// expanded are Expand's bytes, where there should be no error.
func expanded(t *testing.T, key, info []byte, n int) []byte {
	t.Helper()
	b, e := hkdf.Expand(key, info, n)
	if e != api.OK {
		t.Fatalf("key of %d bytes, info of %d, n %d: %v", len(key), len(info), n, e)
	}
	return b
}

// flip turns all bits of a list's bytes, those of its spare room too.
func flip(b []byte) {
	for i := range b[:cap(b)] {
		b[:cap(b)][i] ^= 255
	}
}

// P2.1: the chapter's examples, and those of RFC 4231, with keys of more than a block among them.
func TestMacExamples(t *testing.T) {
	long := bytes.Repeat([]byte{0xAA}, 131)
	for _, c := range []struct {
		key, b []byte
		want   string
	}{
		{nil, nil, "b613679a0814d9ec772f95d778c35fc5ff1697c493715653c6c712144292c5ad"},
		{[]byte("key"), []byte("The quick brown fox jumps over the lazy dog"), "f7bc83f430538424b13298e6aa6fb143ef4d59a14946175997479dbc2d1a3cd8"},
		{bytes.Repeat([]byte{0x0B}, 20), []byte("Hi There"), "b0344c61d8db38535ca8afceaf0bf12b881dc200c9833da726e9376c2e32cff7"},
		{[]byte("Jefe"), []byte("what do ya want for nothing?"), "5bdcc146bf60754e6a042426089575c75a003f089d2739839dec58b964ec3843"},
		{bytes.Repeat([]byte{0xAA}, 20), bytes.Repeat([]byte{0xDD}, 50), "773ea91e36800e46854db8ebd09181a72959098b3ef8c122d9635514ced565fe"},
		{long, []byte("Test Using Larger Than Block-Size Key - Hash Key First"), "60e431591ee0b67f0d8a26aacbf5b77f8e0bc6213728c5140546040f0ee37f54"},
		{long, []byte("This is a test using a larger than block-size key and a larger than block-size data. The key needs to be hashed before being used by the HMAC algorithm."), "9b09ffa71b942fcb27635fbcd5b0e944bfdc63644f0713938a7f51535c3a35e2"},
	} {
		if got := hkdf.Mac(c.key, c.b); !bytes.Equal(got[:], unhex(t, c.want)) {
			t.Errorf("key %X, %.20q: %X, want %s", c.key, c.b, got, c.want)
		}
	}
}

// P2.1: keys and bytes of all lengths about the ends of blocks, against the library's keyed sum.
func TestMacOfAllLengths(t *testing.T) {
	for n := range 140 {
		key, b := sample(n), sample(300+n)
		if got, want := hkdf.Mac(key, b), libraryMac(key, b); got != want {
			t.Errorf("key of %d bytes: %X, want %X", n, got, want)
		}
	}
	for _, k := range keyLengths {
		for _, n := range []int{0, 1, 31, 32, 54, 55, 56, 63, 64, 65, 119, 120, 128, 1000} {
			key, b := sample(k), sample(n)
			if got, want := hkdf.Mac(key, b), libraryMac(key, b); got != want {
				t.Errorf("key of %d bytes, %d bytes: %X, want %X", k, n, got, want)
			}
		}
	}
}

// P2.1: the chapter's words, step by step: the block, its two mixtures, and sha's sums of them.
func TestMacIsTwoSums(t *testing.T) {
	for _, k := range keyLengths {
		key, b := sample(k), sample(77)
		var block [64]byte
		if k > 64 {
			sum := sha.Sum(key)
			copy(block[:], sum[:])
		} else {
			copy(block[:], key)
		}
		var outer, inner []byte
		for _, x := range block {
			outer = append(outer, x^0x5C)
			inner = append(inner, x^0x36)
		}
		within := sha.Sum(append(inner, b...))
		if got, want := hkdf.Mac(key, b), sha.Sum(append(outer, within[:]...)); got != want {
			t.Errorf("key of %d bytes: %X, want %X", k, got, want)
		}
	}
}

// P2.1: keys whose every byte is one of the masks, whose mixture is bytes 0, or 0 or 255.
func TestMacOfKeysLikeTheMasks(t *testing.T) {
	b := sample(50)
	for _, x := range []byte{0, 0x36, 0x5C, 0x36 ^ 0x5C, 255} {
		for _, k := range []int{63, 64, 65} {
			key := bytes.Repeat([]byte{x}, k)
			if got, want := hkdf.Mac(key, b), libraryMac(key, b); got != want {
				t.Errorf("key of %d bytes %X: %X, want %X", k, x, got, want)
			}
		}
	}
}

// P2.2.
func TestExtractIsMac(t *testing.T) {
	for _, k := range keyLengths {
		for _, n := range []int{0, 1, 32, 64, 65} {
			salt, b := sample(k), sample(500 + n)[:n]
			got := hkdf.Extract(salt, b)
			want, err := library.Extract(sha256.New, b, salt)
			if err != nil {
				t.Fatal(err)
			}
			if got != hkdf.Mac(salt, b) || !bytes.Equal(got[:], want) {
				t.Errorf("salt of %d bytes, %d bytes: %X, want %X", k, n, got, want)
			}
		}
	}
}

// P2.2, P2.3: the examples of RFC 5869 with SHA-256.
func TestStandardExamples(t *testing.T) {
	counting := func(from, to int) []byte {
		var b []byte
		for i := from; i < to; i++ {
			b = append(b, byte(i))
		}
		return b
	}
	for _, c := range []struct {
		b, salt, info []byte
		key, want     string
	}{
		{
			bytes.Repeat([]byte{0x0B}, 22), counting(0, 0x0D), counting(0xF0, 0xFA),
			"077709362c2e32df0ddc3f0dc47bba6390b6c73bb50f9c3122ec844ad7c2b3e5",
			"3cb25f25faacd57a90434f64d0362f2a2d2d0a90cf1a5a4c5db02d56ecc4c5bf 34007208d5b887185865",
		},
		{
			counting(0, 0x50), counting(0x60, 0xB0), counting(0xB0, 0x100),
			"06a6b88c5853361a06104c9ceb35b45cef760014904671014a193f40c15fc244",
			"b11e398dc80327a1c8e7f78c596a49344f012eda2d4efad8a050cc4c19afa97c 59045a99cac7827271cb41c65e590e09da3275600c2f09b8367793a9aca3db71 cc30c58179ec3e87c14c01d5c1f3434f1d87",
		},
		{
			bytes.Repeat([]byte{0x0B}, 22), nil, nil,
			"19ef24a32c717b167f33a91d6f648bdf96596776afdb6377ac434c1c293ccb04",
			"8da4e775a563c18f715f802a063c5a31b8a11f5c5ee1879ec3454e5f3c738d2d 9d201395faa4b61a96c8",
		},
	} {
		key, want := hkdf.Extract(c.salt, c.b), unhex(t, c.want)
		if !bytes.Equal(key[:], unhex(t, c.key)) {
			t.Errorf("key %X, want %s", key, c.key)
		}
		if got := expanded(t, key[:], c.info, len(want)); !bytes.Equal(got, want) {
			t.Errorf("%X, want %X", got, want)
		}
	}
}

// P2.3: n of 0, about the ends of the first sums, and the greatest; keys and info of none and of some bytes; against the library.
func TestExpandAgainstTheLibrary(t *testing.T) {
	for _, k := range keyLengths {
		for _, i := range []int{0, 1, 10, 63, 64, 65, 200} {
			for _, n := range []int{0, 1, 2, 31, 32, 33, 63, 64, 65, 96, 97, 1000} {
				checkExpand(t, sample(k), sample(700 + i)[:i], n)
			}
		}
	}
	for _, k := range []int{0, 32, 64, 65} {
		for _, i := range []int{0, 10} {
			for _, n := range []int{8127, 8128, 8129, maxBytes - 1, maxBytes} {
				checkExpand(t, sample(k), sample(700 + i)[:i], n)
			}
		}
	}
}

// checkExpand holds one Expand against the library's.
func checkExpand(t *testing.T, key, info []byte, n int) {
	t.Helper()
	want, err := library.Expand(sha256.New, key, string(info), n)
	if err != nil {
		t.Fatal(err)
	}
	if got := expanded(t, key, info, n); !bytes.Equal(got, want) {
		t.Errorf("key of %d bytes, info of %d, n %d: %X, want %X", len(key), len(info), n, got, want)
	}
}

// P2.3: the chapter's words, sum by sum, up to the last one: of the one ahead, info, and the sum's number.
func TestExpandIsItsSums(t *testing.T) {
	for _, key := range [][]byte{nil, sample(32), sample(64), sample(65)} {
		for _, info := range [][]byte{nil, sample(10)} {
			var want, ahead []byte
			for i := 1; i <= 255; i++ {
				sum := hkdf.Mac(key, slices.Concat(ahead, info, []byte{byte(i)}))
				ahead = sum[:]
				want = append(want, ahead...)
			}
			if got := expanded(t, key, info, maxBytes); !bytes.Equal(got, want) {
				t.Errorf("key of %d bytes, info of %d: the sums are wrong", len(key), len(info))
			}
		}
	}
}

// P2.3: of n 0 no bytes are made, and that is no error.
func TestExpandOfNone(t *testing.T) {
	for _, key := range [][]byte{nil, {}, sample(32), sample(65)} {
		for _, info := range [][]byte{nil, {}, sample(10)} {
			if got, e := hkdf.Expand(key, info, 0); len(got) != 0 || e != api.OK {
				t.Errorf("%v, %v", got, e)
			}
		}
	}
}

// P2.3, R2: numbers that may not be, whatever key and info there are: ErrHkdfLong, and no bytes beside it.
func TestExpandOfWrongNumbers(t *testing.T) {
	wrong := []int{
		math.MinInt, math.MinInt + 1, math.MinInt32, -8161, -8160, -256, -33, -32, -2, -1,
		maxBytes + 1, maxBytes + 2, 8191, 8192, 1 << 16, 1<<16 + 1, math.MaxInt32, 1 << 32, 1<<32 + 1, math.MaxInt - 1, math.MaxInt,
	}
	for _, n := range wrong {
		for _, key := range [][]byte{nil, sample(32), sample(65)} {
			for _, info := range [][]byte{nil, sample(10)} {
				if got, e := hkdf.Expand(key, info, n); len(got) != 0 || e != api.ErrHkdfLong {
					t.Errorf("%d: %d bytes, %v", n, len(got), e)
				}
			}
		}
	}
}

// The error's number is the chapter's.
func TestErrHkdfLongIsTwenty(t *testing.T) {
	if api.ErrHkdfLong != 20 {
		t.Errorf("%d", int(api.ErrHkdfLong))
	}
}

// P2.4: fewer bytes are the beginning of more.
func TestFewerBytesAreTheBeginning(t *testing.T) {
	for _, key := range [][]byte{nil, sample(32), sample(100)} {
		info := sample(7)
		whole := expanded(t, key, info, maxBytes)
		for n := 0; n <= maxBytes; n += 1 + n/70 {
			if got := expanded(t, key, info, n); !bytes.Equal(got, whole[:n]) {
				t.Errorf("key of %d bytes, n %d: no beginning", len(key), n)
			}
		}
	}
}

// same tells whether two keys do the same in all three calls.
func same(t *testing.T, a, b []byte) bool {
	t.Helper()
	m, info := sample(90), sample(9)
	return hkdf.Mac(a, m) == hkdf.Mac(b, m) && hkdf.Extract(a, m) == hkdf.Extract(b, m) &&
		bytes.Equal(expanded(t, a, info, 70), expanded(t, b, info, 70))
}

// P2.4: a key of more than 64 bytes does what its sum does; one of 64 or fewer does not.
func TestLongKeysDoWhatTheirSumsDo(t *testing.T) {
	for _, k := range append(keyLengths, 4096, 1<<20) {
		key := sample(k)
		sum := sha.Sum(key)
		if got := same(t, key, sum[:]); got != (k > 64) {
			t.Errorf("key of %d bytes: its sum does the same: %v", k, got)
		}
	}
}

// P2.4: bytes 0 at a key's end do nothing up to 64, and do something beyond, as they do at its beginning.
func TestZerosAtAKeysEnd(t *testing.T) {
	for _, k := range []int{0, 1, 31, 32, 63, 64} {
		key := sample(k)
		for zeros := range 64 - k + 1 {
			if !same(t, key, tail(key, zeros)) {
				t.Errorf("key of %d bytes: %d bytes 0 do something", k, zeros)
			}
		}
		for _, zeros := range []int{65 - k, 66 - k, 128 - k} {
			if same(t, key, tail(key, zeros)) {
				t.Errorf("key of %d bytes: %d bytes 0 do nothing", k, zeros)
			}
		}
		if k > 0 && k < 64 && same(t, key, slices.Concat([]byte{0}, key)) {
			t.Errorf("key of %d bytes: a byte 0 ahead does nothing", k)
		}
	}
	if key := sample(65); same(t, key, tail(key, 1)) {
		t.Error("key of 65 bytes: a byte 0 at its end does nothing")
	}
}

// R4: no call changes what it is handed, nor its spare room; where key and bytes are one memory, too.
func TestArgumentsStay(t *testing.T) {
	for _, k := range []int{0, 32, 63, 64, 65} {
		room := sample(k + 400)
		before := slices.Clone(room)
		key, b := room[:k], room[:k+10]
		alone, few := slices.Clip(slices.Clone(key)), slices.Clip(slices.Clone(b))
		if hkdf.Mac(key, b) != hkdf.Mac(alone, few) || hkdf.Extract(key, b) != hkdf.Extract(alone, few) {
			t.Errorf("key of %d bytes: spare room makes another sum", k)
		}
		if !bytes.Equal(expanded(t, key, b, 100), expanded(t, alone, few, 100)) {
			t.Errorf("key of %d bytes: spare room makes other bytes", k)
		}
		if !bytes.Equal(room, before) {
			t.Errorf("key of %d bytes: an argument changed, or its spare room", k)
		}
	}
}

// R4: what Expand answers is memory of its own, spare room too: not the arguments', nor another answer's.
func TestExpandHasMemoryOfItsOwn(t *testing.T) {
	for _, n := range []int{0, 1, 31, 32, 33, 64, 100, maxBytes} {
		key, info := sample(64), sample(40)
		keyBefore, infoBefore := slices.Clone(key), slices.Clone(info)
		first, second := expanded(t, key, info, n), expanded(t, key, info, n)
		want := slices.Clone(second)
		flip(first)
		if !bytes.Equal(key, keyBefore) || !bytes.Equal(info, infoBefore) || !bytes.Equal(second, want) {
			t.Errorf("n %d: the answer shares memory with an argument, or with another answer", n)
		}
		if third := expanded(t, key, info, n); !bytes.Equal(third, want) {
			t.Errorf("n %d: asked again, the answer is another", n)
		}
		flip(key)
		flip(info)
		if !bytes.Equal(second, want) {
			t.Errorf("n %d: an argument was kept", n)
		}
	}
}

// R4, R5: a list without elements may be nil or not, and does the same.
func TestNilIsNone(t *testing.T) {
	b := sample(10)
	if hkdf.Mac(nil, b) != hkdf.Mac([]byte{}, b) || hkdf.Mac(b, nil) != hkdf.Mac(b, []byte{}) {
		t.Error("Mac tells nil from none")
	}
	if hkdf.Extract(nil, b) != hkdf.Extract([]byte{}, b) || hkdf.Extract(b, nil) != hkdf.Extract(b, []byte{}) {
		t.Error("Extract tells nil from none")
	}
	if !bytes.Equal(expanded(t, nil, nil, 40), expanded(t, []byte{}, []byte{}, 40)) {
		t.Error("Expand tells nil from none")
	}
}
