package mac

import (
	"bytes"
	"crypto/hmac"
	"crypto/sha256"
	stdhex "encoding/hex"
	"slices"
	"strings"
	"testing"
	"time"

	"incognito/sha"
)

// noise is n bytes that follow no simple rule, always the same of one seed.
func noise(n int, seed uint64) []byte {
	b := make([]byte, n)
	for i := range b {
		seed = seed*6364136223846793005 + 1442695040888963407
		b[i] = byte(seed >> 56)
	}
	return b
}

// sealByLibrary is the seal as the library makes it.
func sealByLibrary(key []byte, parts ...[]byte) [32]byte {
	h := hmac.New(sha256.New, key)
	for _, p := range parts {
		h.Write(p)
	}
	return [32]byte(h.Sum(nil))
}

// keyLengths are those at and around the ends of a block and of a digest, and
// some beyond.
var keyLengths = []int{0, 1, 2, 4, 20, 31, 32, 33, 62, 63, 64, 65, 66, 95, 96, 127, 128, 129, 131, 192, 1000}

// textLengths are those at and around the ends of blocks, and those from which
// on the padding needs another block.
var textLengths = []int{0, 1, 2, 3, 31, 32, 54, 55, 56, 57, 63, 64, 65, 118, 119, 120, 127, 128, 129, 192, 193, 256, 1000}

// P4.1: Block.

func TestBlockOfAnEmptyKey(t *testing.T) {
	if b := Block(nil); b != [64]byte{} {
		t.Errorf("Block(nil) = %v", b)
	}
	if b := Block([]byte{}); b != [64]byte{} {
		t.Errorf("Block of an empty key = %v", b)
	}
	if b := Block(make([]byte, 0, 99)); b != [64]byte{} {
		t.Errorf("Block of an empty key with room = %v", b)
	}
}

func TestBlockOfAKeyThatFits(t *testing.T) {
	for n := range 65 {
		for _, key := range [][]byte{noise(n, 1), bytes.Repeat([]byte{255}, n), make([]byte, n)} {
			b := Block(key)
			if !bytes.Equal(b[:n], key) {
				t.Errorf("Block of %d bytes begins with %v, want %v", n, b[:n], key)
			}
			if !bytes.Equal(b[n:], make([]byte, 64-n)) {
				t.Errorf("Block of %d bytes ends with %v", n, b[n:])
			}
		}
	}
}

func TestBlockOfALongKey(t *testing.T) {
	for n := 65; n < 300; n++ {
		for _, key := range [][]byte{noise(n, 2), bytes.Repeat([]byte{255}, n), make([]byte, n)} {
			digest := sha256.Sum256(key)
			b := Block(key)
			if !bytes.Equal(b[:32], digest[:]) {
				t.Errorf("Block of %d bytes begins with %x, want %x", n, b[:32], digest)
			}
			if !bytes.Equal(b[32:], make([]byte, 32)) {
				t.Errorf("Block of %d bytes ends with %v", n, b[32:])
			}
		}
	}
}

// What lies in a key's spare room is none of it.
func TestBlockEndsWhereTheKeyEnds(t *testing.T) {
	room := bytes.Repeat([]byte{7}, 200)
	for _, n := range []int{0, 1, 63, 64, 65, 131} {
		if b, want := Block(room[:n]), Block(bytes.Repeat([]byte{7}, n)); b != want {
			t.Errorf("Block of %d bytes with room = %v, want %v", n, b, want)
		}
	}
}

// P4.1: Sum.

func TestSumOfKnownTexts(t *testing.T) {
	counted := make([]byte, 25)
	for i := range counted {
		counted[i] = byte(i + 1)
	}
	for _, c := range []struct {
		key  []byte
		text string
		want string
	}{
		{bytes.Repeat([]byte{11}, 20), "Hi There", "b0344c61d8db38535ca8afceaf0bf12b881dc200c9833da726e9376c2e32cff7"},
		{[]byte("Jefe"), "what do ya want for nothing?", "5bdcc146bf60754e6a042426089575c75a003f089d2739839dec58b964ec3843"},
		{bytes.Repeat([]byte{0xaa}, 20), strings.Repeat("\xdd", 50), "773ea91e36800e46854db8ebd09181a72959098b3ef8c122d9635514ced565fe"},
		{counted, strings.Repeat("\xcd", 50), "82558a389a443c0ea4cc819899f2083a85f0faa3e578f8077a2e3ff46729665b"},
		{bytes.Repeat([]byte{0xaa}, 131), "Test Using Larger Than Block-Size Key - Hash Key First", "60e431591ee0b67f0d8a26aacbf5b77f8e0bc6213728c5140546040f0ee37f54"},
		{
			bytes.Repeat([]byte{0xaa}, 131),
			"This is a test using a larger than block-size key and a larger than block-size data. The key needs to be hashed before being used by the HMAC algorithm.",
			"9b09ffa71b942fcb27635fbcd5b0e944bfdc63644f0713938a7f51535c3a35e2",
		},
		{nil, "", "b613679a0814d9ec772f95d778c35fc5ff1697c493715653c6c712144292c5ad"},
	} {
		s := Sum(c.key, []byte(c.text))
		if x := stdhex.EncodeToString(s[:]); x != c.want {
			t.Errorf("Sum of %q under %x = %s, want %s", c.text, c.key, x, c.want)
		}
	}
	if s := Sum(bytes.Repeat([]byte{11}, 20), []byte("Hi There")); !bytes.Equal(s[:4], []byte{176, 52, 76, 97}) {
		t.Errorf("Sum of Hi There begins with %v", s[:4])
	}
}

func TestSumUnderEachKeyOfEachLength(t *testing.T) {
	for _, k := range keyLengths {
		key := noise(k, 3)
		for _, n := range textLengths {
			text := noise(n, 4)
			if s, want := Sum(key, text), sealByLibrary(key, text); s != want {
				t.Errorf("Sum of %d bytes under %d = %x, want %x", n, k, s, want)
			}
		}
	}
}

func TestSumOfNothing(t *testing.T) {
	for _, k := range keyLengths {
		key := noise(k, 5)
		want := sealByLibrary(key)
		if s := Sum(key); s != want {
			t.Errorf("Sum of no part under %d bytes = %x, want %x", k, s, want)
		}
		for _, parts := range [][][]byte{nil, {}, {nil}, {{}}, {nil, {}, nil}, make([][]byte, 100)} {
			if s := Sum(key, parts...); s != want {
				t.Errorf("Sum of %d empty parts under %d bytes = %x, want %x", len(parts), k, s, want)
			}
		}
	}
}

func TestSumKeepsTheOrderOfParts(t *testing.T) {
	key := []byte("key")
	a, b, c := []byte("one"), noise(130, 6), noise(200, 7)
	for _, parts := range [][][]byte{{a, b, c}, {a, c, b}, {b, a, c}, {b, c, a}, {c, a, b}, {c, b, a}, {a, a}, {b, b, b}} {
		if s, want := Sum(key, parts...), sealByLibrary(key, bytes.Join(parts, nil)); s != want {
			t.Errorf("Sum = %x, want %x", s, want)
		}
	}
	if Sum(key, a, b) == Sum(key, b, a) {
		t.Error("the order of parts doesn't matter")
	}
}

// The seal in the chapter's own words.
func TestSumIsMadeOfItsBlocks(t *testing.T) {
	for _, k := range keyLengths {
		key, text := noise(k, 8), noise(77, 9)
		inner, outer := Block(key), Block(key)
		for i := range inner {
			inner[i] ^= 54
			outer[i] ^= 92
		}
		digest := sha.Sum(inner[:], text)
		if s, want := Sum(key, text), sha.Sum(outer[:], digest[:]); s != want {
			t.Errorf("Sum under %d bytes = %x, want %x", k, s, want)
		}
	}
}

func TestKeysOfUnlikeBlocksHaveUnlikeSeals(t *testing.T) {
	text := []byte("text")
	seals := map[[32]byte]string{}
	for _, key := range []string{"", "a", "b", "ab", "ba", "\x00a", "a\x00b", strings.Repeat("a", 64), strings.Repeat("a", 65), strings.Repeat("a", 66)} {
		s := Sum([]byte(key), text)
		if other, ok := seals[s]; ok {
			t.Errorf("%q and %q have one seal", key, other)
		}
		seals[s] = key
	}
}

// P4.1: Same.

func checkSame(t *testing.T, a, b []byte, want bool) {
	t.Helper()
	if got := Same(a, b); got != want {
		t.Errorf("Same(%v, %v) = %v", a, b, got)
	}
	if got := Same(b, a); got != want {
		t.Errorf("Same(%v, %v) = %v", b, a, got)
	}
}

func TestSameOfEmptyTexts(t *testing.T) {
	checkSame(t, nil, nil, true)
	checkSame(t, nil, []byte{}, true)
	checkSame(t, []byte{}, []byte{}, true)
	checkSame(t, []byte("abc")[:0], nil, true)
}

func TestSameOfUnlikeLengths(t *testing.T) {
	for _, n := range []int{1, 2, 31, 32, 63, 64, 65, 128, 200} {
		b := noise(n, 10)
		checkSame(t, b, nil, false)
		checkSame(t, b, b[:n-1], false)
		checkSame(t, b, b[1:], false)
		noughts := make([]byte, n)
		checkSame(t, noughts, nil, false)
		checkSame(t, noughts, noughts[:n-1], false)
		checkSame(t, noughts, make([]byte, n+64), false)
	}
	checkSame(t, []byte("a"), []byte("ab"), false)
}

func TestSameOfTextsThatDifferInOneByte(t *testing.T) {
	for _, n := range []int{1, 2, 31, 32, 33, 63, 64, 65, 127, 128, 129, 200} {
		a := noise(n, 11)
		checkSame(t, a, slices.Clone(a), true)
		checkSame(t, a, a, true)
		for i := range n {
			for bit := range 8 {
				b := slices.Clone(a)
				b[i] ^= 1 << bit
				checkSame(t, a, b, false)
			}
		}
	}
	checkSame(t, []byte("abc"), []byte("xbc"), false)
	checkSame(t, []byte("abc"), []byte("abx"), false)
	checkSame(t, []byte("abc"), []byte("abc"), true)
}

// What differs in one place isn't made up for by what differs in another.
func TestSameOfTextsThatDifferTwice(t *testing.T) {
	for _, apart := range []int{1, 2, 31, 32, 63, 64, 65, 128, 192} {
		for _, d := range []byte{1, 128, 255} {
			a, b := noise(256, 12), noise(256, 12)
			b[0] ^= d
			b[apart] ^= d
			checkSame(t, a, b, false)
			b[0] ^= d
			b[apart] ^= d
			b[0] += d
			b[apart] -= d
			checkSame(t, a, b, false)
		}
	}
	checkSame(t, bytes.Repeat([]byte{1}, 256), make([]byte, 256), false)
	checkSame(t, bytes.Repeat([]byte{255}, 256), bytes.Repeat([]byte{1}, 256), false)
	checkSame(t, []byte("ab"), []byte("ba"), false)
}

// That each byte is looked at shows in the time alone: texts that differ at once
// take about as long as texts that don't. One try among many is enough, as a
// look that ends at the first byte would be thousands of times as short.
func TestSameLooksAtEachByte(t *testing.T) {
	a := noise(1<<20, 38)
	took := func(b []byte) time.Duration {
		begun := time.Now()
		Same(a, b)
		return time.Since(begun)
	}
	alike, first, last := slices.Clone(a), slices.Clone(a), slices.Clone(a)
	first[0] ^= 1
	last[len(last)-1] ^= 1
	for range 50 {
		if whole := took(alike); took(first) > whole/20 && took(last) > whole/20 {
			return
		}
	}
	t.Error("texts that differ in a byte are told apart sooner than texts that don't")
}

// P4.2: a Mac.

func checkMac(t *testing.T, m *Mac, key, written []byte) {
	t.Helper()
	if s, want := m.Seal(), sealByLibrary(key, written); s != want {
		t.Errorf("Seal behind %d bytes under %d = %x, want %x", len(written), len(key), s, want)
	}
	if n := m.Len(); n != uint64(64+len(written)) {
		t.Errorf("Len behind %d bytes under %d = %d", len(written), len(key), n)
	}
	inner := Block(key)
	for i := range inner {
		inner[i] ^= 54
	}
	if s, want := m.Hash.Sum(), sha.Sum(inner[:], written); s != want {
		t.Errorf("its Hash's Sum behind %d bytes under %d = %x, want %x", len(written), len(key), s, want)
	}
}

func TestMacOfNothing(t *testing.T) {
	for _, k := range keyLengths {
		key := noise(k, 13)
		m := New(key)
		checkMac(t, m, key, nil)
		m.Write()
		m.Write([]byte{}...)
		m.Write(nil...)
		checkMac(t, m, key, nil)
		checkMac(t, m, key, nil)
	}
}

func TestMacByteByByteWithASealBehindEach(t *testing.T) {
	for _, k := range []int{0, 20, 63, 64, 65, 131} {
		key, b := noise(k, 14), noise(200, 15)
		m := New(key)
		for i, c := range b {
			m.Write(c)
			checkMac(t, m, key, b[:i+1])
			checkMac(t, m, key, b[:i+1]) // a Seal leaves no trace
		}
	}
}

func TestMacInPartsOfEachLength(t *testing.T) {
	key, b := noise(32, 16), noise(500, 17)
	for size := 1; size <= 200; size++ {
		quiet, asked := New(key), New(key)
		written := 0
		for part := range slices.Chunk(b, size) {
			quiet.Write(part...)
			asked.Write(part...)
			written += len(part)
			checkMac(t, asked, key, b[:written])
		}
		checkMac(t, quiet, key, b)
	}
}

func TestMacOfEdgeAndMore(t *testing.T) {
	for _, k := range []int{0, 63, 64, 65} {
		key := noise(k, 18)
		for _, first := range textLengths {
			for _, second := range textLengths {
				b := noise(first+second, 19)
				m := New(key)
				m.Write(b[:first]...)
				checkMac(t, m, key, b[:first])
				m.Write(b[first:]...)
				checkMac(t, m, key, b)
			}
		}
	}
}

// What is written by the Hash that lies within, and by the Mac, is one.
func TestHashWithin(t *testing.T) {
	key, b := []byte("key"), noise(150, 20)
	m := New(key)
	m.Hash.Write(b[:70]...)
	m.Write(b[70:]...)
	checkMac(t, m, key, b)
}

func TestMacsAreApart(t *testing.T) {
	keys := [][]byte{[]byte("one"), []byte("two"), []byte("one")}
	texts := [][]byte{noise(150, 21), noise(150, 22), noise(150, 23)}
	var macs []*Mac
	for _, key := range keys {
		macs = append(macs, New(key))
	}
	for i := range 150 {
		for j, m := range macs {
			m.Write(texts[j][i])
		}
	}
	for j, m := range macs {
		checkMac(t, m, keys[j], texts[j])
	}
	checkMac(t, New(keys[0]), keys[0], nil)
}

// P4.3: it doesn't matter how bytes are parted.

func TestPartsInTwoAndThree(t *testing.T) {
	for _, k := range []int{0, 20, 64, 65} {
		key := noise(k, 24)
		for _, n := range []int{0, 1, 2, 55, 56, 63, 64, 65, 100} {
			b := noise(n, 25)
			want := Sum(key, b)
			for i := 0; i <= n; i++ {
				if s := Sum(key, b[:i], b[i:]); s != want {
					t.Errorf("%d bytes parted at %d: %x, want %x", n, i, s, want)
				}
				for j := i; j <= n; j += 3 {
					m := New(key)
					m.Write(b[:i]...)
					m.Write(b[i:j]...)
					m.Write(b[j:]...)
					if Sum(key, b[:i], b[i:j], b[j:]) != want || m.Seal() != want {
						t.Errorf("%d bytes parted at %d and %d", n, i, j)
					}
				}
			}
		}
	}
}

func TestPartsByteByByte(t *testing.T) {
	key := []byte("key")
	for _, n := range textLengths {
		b := noise(n, 26)
		want := Sum(key, b)
		between := [][]byte{nil}
		for part := range slices.Chunk(b, 1) {
			between = append(between, part, nil, []byte{})
		}
		if s := Sum(key, between...); s != want {
			t.Errorf("%d bytes with empty parts between: %x, want %x", n, s, want)
		}
	}
}

// P4.3: keys of one block have one seal.

func checkOneSeal(t *testing.T, a, b []byte) {
	t.Helper()
	if Block(a) != Block(b) {
		t.Errorf("keys of %d and %d bytes have two blocks", len(a), len(b))
	}
	for _, n := range textLengths {
		text := noise(n, 27)
		one, other := New(a), New(b)
		one.Write(text...)
		other.Write(text...)
		want := Sum(a, text)
		if Sum(b, text) != want || one.Seal() != want || other.Seal() != want {
			t.Errorf("keys of %d and %d bytes have two seals of %d bytes", len(a), len(b), n)
		}
	}
}

func TestKeyWithNoughtsBehindIt(t *testing.T) {
	for n := range 65 {
		key := noise(n, 28)
		for _, more := range []int{0, 1, (64 - n) / 2, 64 - n} {
			if n+more <= 64 {
				checkOneSeal(t, key, append(slices.Clone(key), make([]byte, more)...))
			}
		}
	}
	// A key that fills its block is another one with a nought behind it.
	full := noise(64, 29)
	if Sum(full) == Sum(append(slices.Clone(full), 0)) {
		t.Error("a key of 65 bytes has the seal of its first 64")
	}
}

func TestLongKeyAndItsDigest(t *testing.T) {
	for _, n := range []int{65, 66, 127, 128, 129, 131, 1000} {
		key := noise(n, 30)
		digest := sha256.Sum256(key)
		checkOneSeal(t, key, digest[:])
		checkOneSeal(t, key, append(digest[:], make([]byte, 32)...))
	}
	// Of a key that fits no digest is taken.
	fits := noise(64, 31)
	digest := sha256.Sum256(fits)
	if Sum(fits) == Sum(digest[:]) {
		t.Error("a key of 64 bytes has the seal of its digest")
	}
}

func FuzzSeal(f *testing.F) {
	f.Add([]byte(""), []byte(""), []byte(""))
	f.Add([]byte("Jefe"), []byte("what do ya want for nothing?"), []byte{1, 0, 2})
	f.Add(noise(65, 32), noise(200, 33), []byte{55, 1, 8, 64, 63})
	f.Fuzz(func(t *testing.T, key, b, sizes []byte) {
		m := New(key)
		var parts [][]byte
		rest := b
		for _, size := range sizes {
			n := min(int(size), len(rest))
			parts = append(parts, rest[:n])
			m.Write(rest[:n]...)
			rest = rest[n:]
			checkMac(t, m, key, b[:len(b)-len(rest)])
		}
		m.Write(rest...)
		checkMac(t, m, key, b)
		if s, want := Sum(key, append(parts, rest)...), sealByLibrary(key, b); s != want {
			t.Errorf("Sum = %x, want %x", s, want)
		}
		block := Block(key)
		if Sum(block[:], b) != Sum(key, b) {
			t.Error("a key and its block have two seals")
		}
		checkSame(t, key, b, bytes.Equal(key, b))
	})
}

// R4: what is handed in isn't changed and isn't kept, what is answered is new memory.

func TestArgumentsStay(t *testing.T) {
	for _, k := range []int{0, 1, 63, 64, 65, 131} {
		key, text := noise(300, 34), noise(300, 35)
		keyThen, textThen := slices.Clone(key), slices.Clone(text)
		parts := [][]byte{text[:3], text[3:70], text[:70]}
		Block(key[:k])
		Sum(key[:k], parts[:2]...)
		Same(key[:k], text[:k])
		m := New(key[:k])
		m.Write(text[:70]...)
		m.Seal()
		if !bytes.Equal(key, keyThen) || !bytes.Equal(text, textThen) {
			t.Errorf("the bytes handed in have changed, with a key of %d", k)
		}
		if len(parts[0]) != 3 || len(parts[1]) != 67 || len(parts[2]) != 70 {
			t.Error("the parts handed in have changed")
		}
	}
}

func TestMacKeepsNoArgument(t *testing.T) {
	for _, k := range keyLengths {
		key, text := noise(k, 36), noise(70, 37)
		m := New(key)
		clear(key)
		m.Write(text...)
		clear(text)
		checkMac(t, m, noise(k, 36), noise(70, 37))
	}
}

func TestAnswersAreNew(t *testing.T) {
	key, text := []byte("key"), []byte("text")
	block := Block(key)
	clear(block[:])
	sum := Sum(key, text)
	clear(sum[:])
	m := New(key)
	m.Write(text...)
	seal := m.Seal()
	clear(seal[:])
	checkMac(t, m, key, text)
	if Block(key) == block || Sum(key, text) == sum || m.Seal() == seal {
		t.Error("an answer that was spoilt is answered again")
	}
}
