package sha_test

import (
	"bytes"
	"crypto/sha256"
	"encoding/binary"
	"encoding/hex"
	"math/rand"
	"slices"
	"strings"
	"testing"

	"sigil/api"
	"sigil/sha"
)

// No test here has wrong inputs: the chapter takes every list of bytes, every state and every block.

// sample are n bytes that repeat nowhere soon; the same ones each time.
func sample(n int) []byte {
	b := make([]byte, n)
	rand.New(rand.NewSource(int64(n))).Read(b)
	return b
}

// wantPad is P1.1 word by word: zeros one at a time, until the whole is blocks.
func wantPad(b []byte) []byte {
	want := append(slices.Clone(b), 128)
	for (len(want)+8)%64 != 0 {
		want = append(want, 0)
	}
	return binary.BigEndian.AppendUint64(want, 8*uint64(len(b)))
}

// P1.1: every length about the ends of the first blocks, and some with a count of several bytes.
func TestPadFillsWholeBlocks(t *testing.T) {
	lengths := []int{255, 256, 8191, 8192, 8193, 65535, 65536, 1 << 21}
	for n := range 200 {
		lengths = append(lengths, n)
	}
	for _, n := range lengths {
		b := sample(n)
		if got := sha.Pad(b); !bytes.Equal(got, wantPad(b)) {
			t.Errorf("%d bytes: the padded ones are wrong (%d of them)", n, len(got))
		}
	}
}

// P1.1: how many blocks there are, with numbers written out: the edge lies between 55 and 56 bytes.
func TestPadLengths(t *testing.T) {
	for _, c := range []struct{ n, want int }{
		{0, 64}, {1, 64}, {54, 64}, {55, 64}, {56, 128}, {57, 128}, {63, 128}, {64, 128}, {65, 128},
		{118, 128}, {119, 128}, {120, 192}, {127, 192}, {128, 192}, {129, 192},
	} {
		if got := len(sha.Pad(make([]byte, c.n))); got != c.want {
			t.Errorf("%d bytes: %d, want %d", c.n, got, c.want)
		}
	}
}

// P1.1: the example of no bytes, nil or not.
func TestPadOfNone(t *testing.T) {
	want := make([]byte, 64)
	want[0] = 128
	for _, b := range [][]byte{nil, {}} {
		if got := sha.Pad(b); !bytes.Equal(got, want) {
			t.Errorf("nil %v: %v", b == nil, got)
		}
	}
}

// P1.1: the count has eight bytes: 2^29 bytes are 2^32 bits, more than a word holds.
func TestPadCountsBeyondAWord(t *testing.T) {
	if testing.Short() {
		t.Skip("needs one GiB of memory")
	}
	got := sha.Pad(make([]byte, 1<<29))
	if want := []byte{0, 0, 0, 1, 0, 0, 0, 0}; len(got) != 1<<29+64 || !bytes.Equal(got[1<<29+56:], want) {
		t.Errorf("%d bytes, the count %v", len(got), got[len(got)-8:])
	}
}

// P1.1, R4: the answer is memory of its own, spare room too, and the argument's spare room stays as it was.
func TestPadHasMemoryOfItsOwn(t *testing.T) {
	for _, n := range []int{0, 55, 56, 63, 64, 65} {
		room := sample(n + 300)
		before := slices.Clone(room)
		b := room[:n]
		first, second := sha.Pad(b), sha.Pad(b)
		if !bytes.Equal(room, before) {
			t.Errorf("%d bytes: Pad changed its argument, or its spare room", n)
		}
		want := slices.Clone(second)
		for i := range first[:cap(first)] {
			first[:cap(first)][i] ^= 255
		}
		if !bytes.Equal(room, before) || !bytes.Equal(second, want) {
			t.Errorf("%d bytes: the answer shares memory with the argument, or with another answer", n)
		}
		for i := range room {
			room[i] ^= 255
		}
		if !bytes.Equal(second, want) {
			t.Errorf("%d bytes: the argument was kept", n)
		}
	}
}

// P1.2.
func TestBegin(t *testing.T) {
	want := [8]uint32{0x6A09E667, 0xBB67AE85, 0x3C6EF372, 0xA54FF53A, 0x510E527F, 0x9B05688C, 0x1F83D9AB, 0x5BE0CD19}
	if got := sha.Begin(); got != want {
		t.Errorf("%X", got)
	}
}

// The library's sum tells its state as four bytes of magic, eight words, the open block and how many bytes there were.
const (
	magic      = "sha\x03"
	stateBytes = 32
)

// wantStep asks the library's SHA-256 for one block more behind any state.
func wantStep(t *testing.T, h [8]uint32, block [64]byte) [8]uint32 {
	t.Helper()
	d := sha256.New().(interface {
		Write([]byte) (int, error)
		UnmarshalBinary([]byte) error
		MarshalBinary() ([]byte, error)
	})
	state := []byte(magic)
	for _, word := range h {
		state = binary.BigEndian.AppendUint32(state, word)
	}
	if err := d.UnmarshalBinary(append(state, make([]byte, 64+8)...)); err != nil {
		t.Fatal(err)
	}
	d.Write(block[:])
	told, err := d.MarshalBinary()
	if err != nil {
		t.Fatal(err)
	}
	var want [8]uint32
	for i := range want {
		want[i] = binary.BigEndian.Uint32(told[len(magic):][4*i:])
	}
	return want
}

// P1.3: of no bytes and of `abc` there is one block: the step behind Begin is the sum of the chapter's examples.
func TestStepExamples(t *testing.T) {
	var none, abc [64]byte
	none[0] = 128
	copy(abc[:], "abc\x80")
	abc[63] = 24
	for _, c := range []struct {
		block [64]byte
		want  [8]uint32
	}{
		{none, [8]uint32{0xE3B0C442, 0x98FC1C14, 0x9AFBF4C8, 0x996FB924, 0x27AE41E4, 0x649B934C, 0xA495991B, 0x7852B855}},
		{abc, [8]uint32{0xBA7816BF, 0x8F01CFEA, 0x414140DE, 0x5DAE2223, 0xB00361A3, 0x96177A9C, 0xB410FF61, 0xF20015AD}},
	} {
		if got := sha.Step(sha.Begin(), c.block); got != c.want {
			t.Errorf("%.4q: %X", c.block, got)
		}
	}
}

// P1.3: any state and any block, not only those that sums come by.
func TestStepOfAnyWords(t *testing.T) {
	ones, full := [8]uint32{}, [64]byte{}
	for i := range ones {
		ones[i] = 1<<32 - 1
	}
	for i := range full {
		full[i] = 255
	}
	type step struct {
		h     [8]uint32
		block [64]byte
	}
	steps := []step{{}, {h: ones}, {block: full}, {ones, full}}
	for i := range 8 * 32 {
		var s step
		s.h[i/32] = 1 << (i % 32)
		steps = append(steps, s)
	}
	for i := range 64 * 8 {
		var s step
		s.block[i/8] = 1 << (i % 8)
		steps = append(steps, s)
	}
	random := rand.New(rand.NewSource(1))
	for range 200 {
		var s step
		for i := range s.h {
			s.h[i] = random.Uint32()
		}
		random.Read(s.block[:])
		steps = append(steps, s)
	}
	for _, s := range steps {
		if got, want := sha.Step(s.h, s.block), wantStep(t, s.h, s.block); got != want {
			t.Errorf("h %X, block %X: %X, want %X", s.h, s.block, got, want)
		}
	}
}

// P1.4: the chapter's examples, and the standard's.
func TestSumExamples(t *testing.T) {
	twoBlocks := "abcdefghbcdefghicdefghijdefghijkefghijklfghijklmghijklmnhijklmnoijklmnopjklmnopqklmnopqrlmnopqrsmnopqrstnopqrstu"
	for _, c := range []struct{ text, want string }{
		{"", "e3b0c44298fc1c149afbf4c8996fb92427ae41e4649b934ca495991b7852b855"},
		{"abc", "ba7816bf8f01cfea414140de5dae2223b00361a396177a9cb410ff61f20015ad"},
		{"abcdbcdecdefdefgefghfghighijhijkijkljklmklmnlmnomnopnopq", "248d6a61d20638b8e5c026930c3e6039a33ce45964ff2167f6ecedd419db06c1"},
		{twoBlocks, "cf5b16a778af8380036ce59e7b0492370b249b11e8f07a51afac45037afee9d1"},
		{strings.Repeat("a", 1000000), "cdc76e5c9914fb9281a1c7e284d73e67f1809a48a497200e046d39ccc7112cd0"},
	} {
		d := sha.Sum([]byte(c.text))
		if got := hex.EncodeToString(d[:]); got != c.want {
			t.Errorf("%.20q: %s, want %s", c.text, got, c.want)
		}
	}
}

// P1.4: every length about the ends of the first blocks, against the library's sum.
func TestSumOfAllLengths(t *testing.T) {
	if sha.Sum(nil) != sha.Sum([]byte{}) {
		t.Error("nil and no bytes have different sums")
	}
	for n := range 400 {
		b := sample(n)
		if got, want := sha.Sum(b), api.Digest(sha256.Sum256(b)); got != want {
			t.Errorf("%d bytes: %X, want %X", n, got, want)
		}
	}
}

// P1.4: the sum is made of the steps, over the padded blocks in order.
func TestSumIsItsSteps(t *testing.T) {
	for _, n := range []int{0, 55, 56, 63, 64, 65, 1000} {
		b := sample(n)
		h := sha.Begin()
		for block := range slices.Chunk(sha.Pad(b), 64) {
			h = sha.Step(h, [64]byte(block))
		}
		var want []byte
		for _, word := range h {
			want = binary.BigEndian.AppendUint32(want, word)
		}
		if got := sha.Sum(b); !bytes.Equal(got[:], want) {
			t.Errorf("%d bytes: %X, want %X", n, got, want)
		}
	}
}

// P1.4, R4, R5: a sum hangs on the bytes alone, and leaves them and their spare room as they were.
func TestSumHangsOnTheBytesAlone(t *testing.T) {
	for _, n := range []int{0, 55, 56, 63, 64, 65} {
		room := sample(n + 300)
		before := slices.Clone(room)
		want := sha.Sum(slices.Clip(slices.Clone(room[:n])))
		if got := sha.Sum(room[:n]); got != want || !bytes.Equal(room, before) {
			t.Errorf("%d bytes: %X, want %X; room changed: %v", n, got, want, !bytes.Equal(room, before))
		}
		if got := sha.Sum(room[:n]); got != want {
			t.Errorf("%d bytes: asked again: %X, want %X", n, got, want)
		}
	}
}
