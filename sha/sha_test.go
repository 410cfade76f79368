package sha

import (
	"bytes"
	"crypto/sha256"
	"encoding"
	"encoding/binary"
	stdhex "encoding/hex"
	"math"
	"math/big"
	"slices"
	"strings"
	"testing"

	"incognito/api"
	"incognito/prime"
)

// noise is n bytes that follow no simple rule, always the same of one seed.
func noise(n int, seed uint64) []byte {
	b := make([]byte, n)
	for i := range b {
		seed = seed*6364136223846793005 + 1442695040888963407
		b[i] = byte(seed >> 56)
	}
	return b
}

// edges are lengths at and around the ends of blocks, and those from which on
// the padding needs another block.
var edges = []int{
	0, 1, 2, 3, 4, 5, 7, 8, 31, 32, 54, 55, 56, 57, 58, 62, 63, 64, 65, 66,
	118, 119, 120, 121, 127, 128, 129, 183, 184, 191, 192, 193, 255, 256, 257, 1000, 4096, 5000,
}

// P3.1: K.

func TestKIsTheFractionOfACubeRoot(t *testing.T) {
	for i := range 64 {
		want, e := prime.Root(prime.Nth(i), 3)
		if e != api.OK {
			t.Fatalf("Root of prime %d: error %d", i, e)
		}
		if k := K(i); k != want {
			t.Errorf("K(%d) = %#x, want %#x", i, k, want)
		}
	}
}

// The same by numbers of any size, without layer 2.
func TestKBetweenItsCubes(t *testing.T) {
	i := 0
	for p := int64(2); i < 64; p++ {
		if !big.NewInt(p).ProbablyPrime(20) {
			continue
		}
		whole := int64(1)
		for (whole+1)*(whole+1)*(whole+1) <= p {
			whole++
		}
		root := big.NewInt(whole<<32 + int64(K(i)))
		next := new(big.Int).Add(root, big.NewInt(1))
		cube := new(big.Int).Lsh(big.NewInt(p), 96)
		three := big.NewInt(3)
		if new(big.Int).Exp(root, three, nil).Cmp(cube) > 0 || new(big.Int).Exp(next, three, nil).Cmp(cube) <= 0 {
			t.Errorf("K(%d) = %#x isn't the fraction of the cube root of %d", i, K(i), p)
		}
		i++
	}
}

func TestKAtItsEdges(t *testing.T) {
	for _, c := range []struct {
		i    int
		want uint32
	}{
		{0, 0x428a2f98}, {1, 0x71374491}, {31, 0x14292967}, {32, 0x27b70a85}, {62, 0xbef9a3f7}, {63, 0xc67178f2},
		{-1, 0}, {-2, 0}, {-63, 0}, {-64, 0}, {math.MinInt, 0}, {math.MinInt32, 0}, {-1 << 32, 0},
		{64, 0}, {65, 0}, {99, 0}, {100, 0}, {127, 0}, {128, 0}, {256, 0}, {1 << 32, 0}, {1<<32 + 1, 0}, {math.MaxInt32, 0}, {math.MaxInt, 0},
	} {
		if k := K(c.i); k != c.want {
			t.Errorf("K(%d) = %#x, want %#x", c.i, k, c.want)
		}
	}
}

// P3.1: Start.

func TestStart(t *testing.T) {
	want := [8]uint32{
		0x6a09e667, 0xbb67ae85, 0x3c6ef372, 0xa54ff53a, 0x510e527f, 0x9b05688c, 0x1f83d9ab, 0x5be0cd19,
	}
	if s := Start(); s != want {
		t.Errorf("Start() = %#x", s)
	}
	for i, w := range Start() {
		if f, e := prime.Root(prime.Nth(i), 2); e != api.OK || w != f {
			t.Errorf("word %d of Start() is %#x, the root's fraction %#x", i, w, f)
		}
	}
}

// P3.1: Turn.

// turnByLibrary lets the library's digest turn any eight words, by the form in
// which it can be stored: four bytes of its own, the words, a block, a length.
func turnByLibrary(t *testing.T, state [8]uint32, block [64]byte) [8]uint32 {
	t.Helper()
	h := sha256.New()
	form, err := h.(encoding.BinaryMarshaler).MarshalBinary()
	if err != nil {
		t.Fatal(err)
	}
	for i, w := range state {
		binary.BigEndian.PutUint32(form[4+4*i:], w)
	}
	if err := h.(encoding.BinaryUnmarshaler).UnmarshalBinary(form); err != nil {
		t.Fatal(err)
	}
	h.Write(block[:])
	if form, err = h.(encoding.BinaryMarshaler).MarshalBinary(); err != nil {
		t.Fatal(err)
	}
	for i := range state {
		state[i] = binary.BigEndian.Uint32(form[4+4*i:])
	}
	return state
}

func TestTurn(t *testing.T) {
	ones := [8]uint32{}
	for i := range ones {
		ones[i] = math.MaxUint32
	}
	states := [][8]uint32{{}, ones, Start(), {1, 2, 3, 4, 5, 6, 7, 8}}
	for i := range 8 {
		states = append(states, [8]uint32{})
		states[len(states)-1][i] = 0x80000001
	}
	blocks := [][64]byte{{}, [64]byte(bytes.Repeat([]byte{255}, 64))}
	for i := range 64 {
		blocks = append(blocks, [64]byte{})
		blocks[len(blocks)-1][i] = 0x81
		blocks = append(blocks, [64]byte(noise(64, uint64(i))))
	}
	for _, s := range states {
		for _, b := range blocks {
			want := turnByLibrary(t, s, b)
			if got := Turn(s, b); got != want {
				t.Errorf("Turn(%#x, %x) = %#x, want %#x", s, b, got, want)
			}
		}
	}
}

func TestTurnBlockByBlock(t *testing.T) {
	state := Start()
	for i := range 300 {
		block := [64]byte(noise(64, uint64(1000+i)))
		want := turnByLibrary(t, state, block)
		if state = Turn(state, block); state != want {
			t.Fatalf("block %d: %#x, want %#x", i, state, want)
		}
	}
}

// The words that the standard tells of abc, whose one block is written out here.
func TestTurnOfAbc(t *testing.T) {
	block := [64]byte{0: 'a', 1: 'b', 2: 'c', 3: 128, 63: 24}
	want := [8]uint32{
		0xba7816bf, 0x8f01cfea, 0x414140de, 0x5dae2223, 0xb00361a3, 0x96177a9c, 0xb410ff61, 0xf20015ad,
	}
	if got := Turn(Start(), block); got != want {
		t.Errorf("Turn = %#x", got)
	}
}

// P3.1: Pad.

func checkPad(t *testing.T, n uint64) {
	t.Helper()
	p := Pad(n)
	if len(p) < 9 || len(p) > 72 {
		t.Errorf("Pad(%d) has %d bytes", n, len(p))
		return
	}
	all := new(big.Int).SetUint64(n)
	all.Add(all, big.NewInt(int64(len(p))))
	if new(big.Int).Mod(all, big.NewInt(64)).Sign() != 0 {
		t.Errorf("%d and its %d bytes aren't divided by 64", n, len(p))
	}
	if p[0] != 128 {
		t.Errorf("Pad(%d) begins with %d", n, p[0])
	}
	for i, c := range p[1 : len(p)-8] {
		if c != 0 {
			t.Errorf("byte %d of Pad(%d) is %d", i+1, n, c)
		}
	}
	bits := new(big.Int).Lsh(new(big.Int).SetUint64(n), 3)
	bits.And(bits, new(big.Int).SetUint64(math.MaxUint64))
	if !bytes.Equal(p[len(p)-8:], bits.FillBytes(make([]byte, 8))) {
		t.Errorf("Pad(%d) ends with %v, want %d", n, p[len(p)-8:], bits)
	}
}

func TestPad(t *testing.T) {
	for n := range uint64(1000) {
		checkPad(t, n)
	}
	for shift := range 64 {
		for d := range uint64(130) {
			checkPad(t, 1<<shift+d)
			checkPad(t, 1<<shift-d) // 1 - d and the like come round to the greatest
		}
	}
}

func TestPadAtItsEdges(t *testing.T) {
	for _, c := range []struct {
		n    uint64
		size int
		end  []byte
	}{
		{0, 64, []byte{0, 0, 0, 0, 0, 0, 0, 0}},
		{1, 63, []byte{0, 0, 0, 0, 0, 0, 0, 8}},
		{3, 61, []byte{0, 0, 0, 0, 0, 0, 0, 24}},
		{54, 10, []byte{0, 0, 0, 0, 0, 0, 1, 176}},
		{55, 9, []byte{0, 0, 0, 0, 0, 0, 1, 184}},
		{56, 72, []byte{0, 0, 0, 0, 0, 0, 1, 192}},
		{57, 71, []byte{0, 0, 0, 0, 0, 0, 1, 200}},
		{63, 65, []byte{0, 0, 0, 0, 0, 0, 1, 248}},
		{64, 64, []byte{0, 0, 0, 0, 0, 0, 2, 0}},
		{65, 63, []byte{0, 0, 0, 0, 0, 0, 2, 8}},
		{119, 9, []byte{0, 0, 0, 0, 0, 0, 3, 184}},
		{120, 72, []byte{0, 0, 0, 0, 0, 0, 3, 192}},
		{1 << 29, 64, []byte{0, 0, 0, 1, 0, 0, 0, 0}},
		{1<<61 - 1, 65, []byte{255, 255, 255, 255, 255, 255, 255, 248}},
		{1 << 61, 64, []byte{0, 0, 0, 0, 0, 0, 0, 0}}, // 8 n is 2^64
		{1<<61 + 1, 63, []byte{0, 0, 0, 0, 0, 0, 0, 8}},
		{1<<61 + 56, 72, []byte{0, 0, 0, 0, 0, 0, 1, 192}},
		{1 << 63, 64, []byte{0, 0, 0, 0, 0, 0, 0, 0}},
		{math.MaxUint64 - 8, 9, []byte{255, 255, 255, 255, 255, 255, 255, 184}}, // n and 9 bytes are 2^64
		{math.MaxUint64 - 7, 72, []byte{255, 255, 255, 255, 255, 255, 255, 192}},
		{math.MaxUint64, 65, []byte{255, 255, 255, 255, 255, 255, 255, 248}},
	} {
		p := Pad(c.n)
		want := append(append([]byte{128}, make([]byte, c.size-9)...), c.end...)
		if !bytes.Equal(p, want) {
			t.Errorf("Pad(%d) = %v, want %v", c.n, p, want)
		}
	}
}

// So the digest is what Start, Pad and Turn make of the bytes.
func TestDigestIsMadeOfItsPieces(t *testing.T) {
	for _, n := range edges {
		b := noise(n, 3)
		state := Start()
		for block := range slices.Chunk(append(slices.Clone(b), Pad(uint64(n))...), 64) {
			if len(block) != 64 {
				t.Fatalf("%d bytes and their padding end with a block of %d", n, len(block))
			}
			state = Turn(state, [64]byte(block))
		}
		var want []byte
		for _, w := range state {
			want = binary.BigEndian.AppendUint32(want, w)
		}
		if s := Sum(b); !bytes.Equal(s[:], want) {
			t.Errorf("Sum of %d bytes = %x, want %x", n, s, want)
		}
	}
}

// P3.2: Sum of parts.

func TestSumOfKnownTexts(t *testing.T) {
	for _, c := range [][2]string{
		{"", "e3b0c44298fc1c149afbf4c8996fb92427ae41e4649b934ca495991b7852b855"},
		{"abc", "ba7816bf8f01cfea414140de5dae2223b00361a396177a9cb410ff61f20015ad"},
		{"abcdbcdecdefdefgefghfghighijhijkijkljklmklmnlmnomnopnopq", "248d6a61d20638b8e5c026930c3e6039a33ce45964ff2167f6ecedd419db06c1"},
		{
			"abcdefghbcdefghicdefghijdefghijkefghijklfghijklmghijklmnhijklmnoijklmnopjklmnopqklmnopqrlmnopqrsmnopqrstnopqrstu",
			"cf5b16a778af8380036ce59e7b0492370b249b11e8f07a51afac45037afee9d1",
		},
		{strings.Repeat("a", 1000000), "cdc76e5c9914fb9281a1c7e284d73e67f1809a48a497200e046d39ccc7112cd0"},
	} {
		s := Sum([]byte(c[0]))
		if x := stdhex.EncodeToString(s[:]); x != c[1] {
			t.Errorf("Sum of %d bytes = %s, want %s", len(c[0]), x, c[1])
		}
	}
	if s := Sum([]byte("abc")); !bytes.Equal(s[:4], []byte{186, 120, 22, 191}) {
		t.Errorf("Sum of abc begins with %v", s[:4])
	}
}

func TestSumOfNothing(t *testing.T) {
	want := sha256.Sum256(nil)
	for _, parts := range [][][]byte{nil, {}, {nil}, {{}}, {nil, {}, nil}, make([][]byte, 200)} {
		if s := Sum(parts...); s != want {
			t.Errorf("Sum of %d empty parts = %x", len(parts), s)
		}
	}
	if s := Sum(); s != want {
		t.Errorf("Sum() = %x", s)
	}
}

func TestSumOfEachLength(t *testing.T) {
	for n := range 400 {
		for _, b := range [][]byte{noise(n, 1), make([]byte, n), bytes.Repeat([]byte{255}, n), bytes.Repeat([]byte{128}, n)} {
			if s, want := Sum(b), sha256.Sum256(b); s != want {
				t.Errorf("Sum of %d bytes = %x, want %x", n, s, want)
			}
		}
	}
	for _, n := range edges {
		b := noise(n, 2)
		if s, want := Sum(b), sha256.Sum256(b); s != want {
			t.Errorf("Sum of %d bytes = %x, want %x", n, s, want)
		}
	}
}

func TestSumKeepsTheOrderOfParts(t *testing.T) {
	a, b, c := []byte("one"), noise(61, 4), noise(70, 5)
	for _, parts := range [][][]byte{{a, b, c}, {a, c, b}, {b, a, c}, {b, c, a}, {c, a, b}, {c, b, a}, {a, a}, {b, b, b}} {
		if s, want := Sum(parts...), sha256.Sum256(bytes.Join(parts, nil)); s != want {
			t.Errorf("Sum = %x, want %x", s, want)
		}
	}
	if Sum(a, b) == Sum(b, a) {
		t.Error("the order of parts doesn't matter")
	}
}

// P3.2: a Hash.

func checkHash(t *testing.T, h *Hash, written []byte) {
	t.Helper()
	if s, want := h.Sum(), sha256.Sum256(written); s != want {
		t.Errorf("Sum behind %d bytes = %x, want %x", len(written), s, want)
	}
	if n := h.Len(); n != uint64(len(written)) {
		t.Errorf("Len behind %d bytes = %d", len(written), n)
	}
}

func TestHashOfNothing(t *testing.T) {
	h := New()
	checkHash(t, h, nil)
	h.Write()
	checkHash(t, h, nil)
	h.Write([]byte{}...)
	h.Write(nil...)
	checkHash(t, h, nil)
	h.Write(7)
	checkHash(t, h, []byte{7})
	h.Write()
	checkHash(t, h, []byte{7})
	checkHash(t, New(), nil)
}

func TestHashByteByByteWithASumBehindEach(t *testing.T) {
	b := noise(300, 6)
	h := New()
	for i, c := range b {
		h.Write(c)
		checkHash(t, h, b[:i+1])
		checkHash(t, h, b[:i+1]) // a Sum leaves no trace
	}
}

func TestHashInPartsOfEachLength(t *testing.T) {
	b := noise(700, 7)
	for size := 1; size <= 200; size++ {
		quiet, asked := New(), New()
		written := 0
		for part := range slices.Chunk(b, size) {
			quiet.Write(part...)
			asked.Write(part...)
			written += len(part)
			checkHash(t, asked, b[:written])
		}
		checkHash(t, quiet, b)
	}
}

func TestHashOfEdgeAndMore(t *testing.T) {
	for _, first := range edges {
		for _, second := range edges {
			b := noise(first+second, 8)
			h := New()
			h.Write(b[:first]...)
			checkHash(t, h, b[:first])
			h.Write(b[first:]...)
			checkHash(t, h, b)
		}
	}
}

func TestHashesAreApart(t *testing.T) {
	a, b := noise(150, 9), noise(150, 10)
	one, other := New(), New()
	for i := range a {
		one.Write(a[i])
		other.Write(b[i])
	}
	checkHash(t, one, a)
	checkHash(t, other, b)
	Sum(a)
	checkHash(t, New(), nil)
}

// Behind more than 2^32 bytes, lengths of 32 bits would have come round. So
// many take too long to write, but a Hash may be set as if they were.
func TestLengthBeyond32Bits(t *testing.T) {
	h := New()
	h.length = 1<<32 + 64
	h.Write(1, 2, 3)
	if n := h.Len(); n != 1<<32+67 {
		t.Errorf("Len = %d", n)
	}
	block := [64]byte{1, 2, 3, 128}
	binary.BigEndian.PutUint64(block[56:], 8*(1<<32+67))
	if s, want := h.Sum(), digest(Turn(Start(), block)); s != want {
		t.Errorf("Sum = %x, want %x", s, want)
	}
}

// P3.3: it doesn't matter how bytes are parted.

func TestPartsInTwoAndThree(t *testing.T) {
	for _, n := range []int{0, 1, 2, 55, 56, 63, 64, 65, 119, 128, 130} {
		b := noise(n, 11)
		want := Sum(b)
		for i := 0; i <= n; i++ {
			if s := Sum(b[:i], b[i:]); s != want {
				t.Errorf("%d bytes parted at %d: %x, want %x", n, i, s, want)
			}
			for j := i; j <= n; j++ {
				h := New()
				h.Write(b[:i]...)
				h.Write(b[i:j]...)
				h.Write(b[j:]...)
				if Sum(b[:i], b[i:j], b[j:]) != want || h.Sum() != want || h.Len() != uint64(n) {
					t.Errorf("%d bytes parted at %d and %d", n, i, j)
				}
			}
		}
	}
}

func TestPartsByteByByte(t *testing.T) {
	for _, n := range edges {
		b := noise(n, 12)
		parts := slices.Collect(slices.Chunk(b, 1))
		if s, want := Sum(parts...), Sum(b); s != want {
			t.Errorf("%d bytes one by one: %x, want %x", n, s, want)
		}
		between := [][]byte{nil}
		for _, p := range parts {
			between = append(between, p, nil, []byte{})
		}
		if s, want := Sum(between...), Sum(b); s != want {
			t.Errorf("%d bytes with empty parts between: %x, want %x", n, s, want)
		}
	}
}

func FuzzParts(f *testing.F) {
	f.Add([]byte(""), []byte(""))
	f.Add([]byte("abc"), []byte{1, 0, 2})
	f.Add(noise(200, 13), []byte{55, 1, 8, 64, 63})
	f.Fuzz(func(t *testing.T, b, sizes []byte) {
		h := New()
		var parts [][]byte
		rest := b
		for _, size := range sizes {
			n := min(int(size), len(rest))
			parts = append(parts, rest[:n])
			h.Write(rest[:n]...)
			rest = rest[n:]
			checkHash(t, h, b[:len(b)-len(rest)])
		}
		h.Write(rest...)
		checkHash(t, h, b)
		if s, want := Sum(append(parts, rest)...), sha256.Sum256(b); s != want {
			t.Errorf("Sum = %x, want %x", s, want)
		}
	})
}

// R4: what is handed in isn't changed and isn't kept, what is answered is new memory.

func TestArgumentsStay(t *testing.T) {
	room := noise(200, 14)
	want := slices.Clone(room)
	parts := [][]byte{room[:3], room[3:70], room[:70]}
	Sum(parts[:2]...)
	h := New()
	h.Write(room[:70]...)
	h.Sum()
	if !bytes.Equal(room, want) {
		t.Error("the bytes handed in have changed")
	}
	if len(parts[0]) != 3 || len(parts[1]) != 67 || len(parts[2]) != 70 {
		t.Error("the parts handed in have changed")
	}
	state, block := [8]uint32{1, 2, 3}, [64]byte{4, 5, 6}
	Turn(state, block)
	if state != [8]uint32{1, 2, 3} || block != [64]byte{4, 5, 6} {
		t.Error("Turn has changed what it was handed")
	}
}

func TestHashKeepsNoArgument(t *testing.T) {
	for _, n := range edges {
		b := noise(n, 15)
		written := slices.Clone(b)
		h := New()
		h.Write(b...)
		clear(b)
		checkHash(t, h, written)
	}
}

func TestAnswersAreNew(t *testing.T) {
	for _, n := range []uint64{0, 3, 55, 56} {
		first, second := Pad(n), Pad(n)
		want := slices.Clone(second)
		first = first[:cap(first)]
		for i := range first {
			first[i] = 99
		}
		if !bytes.Equal(second, want) || !bytes.Equal(Pad(n), want) {
			t.Errorf("two answers of Pad(%d) share memory", n)
		}
	}
	start := Start()
	clear(start[:])
	sum := Sum([]byte("abc"))
	clear(sum[:])
	h := New()
	h.Write('a', 'b', 'c')
	told := h.Sum()
	clear(told[:])
	checkHash(t, h, []byte("abc"))
	if Start() == start || Sum([]byte("abc")) == sum {
		t.Error("an answer that was spoilt is answered again")
	}
}
