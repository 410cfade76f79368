package tag

import (
	"bytes"
	"crypto/hmac"
	"crypto/sha256"
	"encoding/binary"
	stdhex "encoding/hex"
	"math"
	"slices"
	"strings"
	"testing"

	"incognito/api"
)

// counted is n bytes, each one above the one ahead (modulo 256), from first on.
func counted(n int, first byte) []byte {
	b := make([]byte, n)
	for i := range b {
		b[i] = first + byte(i)
	}
	return b
}

// length is n in eight bytes, as the library has it.
func length(n uint64) []byte {
	return binary.BigEndian.AppendUint64(nil, n)
}

// frameOf is the frame in the chapter's own words.
func frameOf(parts ...[]byte) []byte {
	var b []byte
	for _, p := range parts {
		b = append(b, length(uint64(len(p)))...)
		b = append(b, p...)
	}
	return b
}

// lists are lists of parts: none, empty ones, one long part, many, and parts
// that look like lengths and frames themselves.
func lists() [][][]byte {
	many := make([][]byte, 3000)
	for i := range many {
		many[i] = counted(i%7, byte(i))
	}
	within := frameOf([]byte("a"), nil)
	return [][][]byte{
		nil,
		{},
		{nil},
		{{}},
		{nil, {}, nil},
		make([][]byte, 1000),
		{[]byte("a")},
		{[]byte("a"), nil},
		{nil, []byte("a")},
		{[]byte("ab"), nil, []byte("c")},
		{{0}},
		{{0, 0, 0, 0, 0, 0, 0}},
		{{0, 0, 0, 0, 0, 0, 0, 0}},
		{length(1), {255}, length(math.MaxUint64)},
		{within, within, frameOf(within)},
		{counted(255, 1)},
		{counted(256, 2)},
		{counted(257, 3), counted(256, 4), counted(255, 5)},
		{counted(65535, 6), counted(65536, 7), counted(65537, 8)},
		{counted(1<<24+1, 9)},
		{nil, counted(100000, 10), nil, {}},
		{[]byte("incognito"), []byte("é日😀"), {255, 254, 128}},
		many,
	}
}

// P5.1: Frame.

func TestFrame(t *testing.T) {
	for _, c := range []struct {
		parts [][]byte
		want  []byte
	}{
		{nil, nil},
		{[][]byte{nil}, []byte{0, 0, 0, 0, 0, 0, 0, 0}},
		{[][]byte{{}}, []byte{0, 0, 0, 0, 0, 0, 0, 0}},
		{[][]byte{nil, {}}, make([]byte, 16)},
		{[][]byte{{7}}, []byte{0, 0, 0, 0, 0, 0, 0, 1, 7}},
		{[][]byte{[]byte("a"), nil}, []byte{0, 0, 0, 0, 0, 0, 0, 1, 'a', 0, 0, 0, 0, 0, 0, 0, 0}},
		{[][]byte{nil, []byte("a")}, []byte{0, 0, 0, 0, 0, 0, 0, 0, 0, 0, 0, 0, 0, 0, 0, 1, 'a'}},
		{
			[][]byte{[]byte("ab"), []byte("c"), []byte("def")},
			[]byte{0, 0, 0, 0, 0, 0, 0, 2, 'a', 'b', 0, 0, 0, 0, 0, 0, 0, 1, 'c', 0, 0, 0, 0, 0, 0, 0, 3, 'd', 'e', 'f'},
		},
	} {
		if f := Frame(c.parts...); !bytes.Equal(f, c.want) {
			t.Errorf("Frame(%v) = %v, want %v", c.parts, f, c.want)
		}
	}
	if f := Frame(); len(f) != 0 {
		t.Errorf("Frame() = %v", f)
	}
	if f := Frame([]byte("a"), nil); len(f) != 17 {
		t.Errorf("Frame of a and nothing has %d bytes", len(f))
	}
}

func TestFrameOfLongPartsAndMany(t *testing.T) {
	for i, parts := range lists() {
		if f := Frame(parts...); !bytes.Equal(f, frameOf(parts...)) {
			t.Errorf("list %d: Frame has %d bytes, or others than it should", i, len(f))
		}
	}
	long := Frame(counted(66051, 0))
	if !bytes.Equal(long[:9], []byte{0, 0, 0, 0, 0, 1, 2, 3, 0}) || len(long) != 8+66051 {
		t.Errorf("Frame of 66051 bytes has %d and begins with %v", len(long), long[:9])
	}
}

// P5.1: Parts.

func checkParts(t *testing.T, b []byte, want [][]byte) {
	t.Helper()
	parts, e := Parts(b)
	if e != api.OK || !slices.EqualFunc(parts, want, bytes.Equal) {
		t.Errorf("Parts of %d bytes: %d parts, %d, want %d parts and OK, or other parts", len(b), len(parts), e, len(want))
	}
}

func checkNoFrame(t *testing.T, b []byte) {
	t.Helper()
	if parts, e := Parts(b); e != api.ErrSyntax || len(parts) != 0 {
		t.Errorf("Parts(%v) = %v, %d, want ErrSyntax and nothing", b, parts, e)
	}
}

func TestPartsOfNoBytes(t *testing.T) {
	checkParts(t, nil, nil)
	checkParts(t, []byte{}, nil)
	checkParts(t, []byte("room")[:0], nil)
}

func TestPartsTellsAgainWhatFrameWasHanded(t *testing.T) {
	for _, parts := range lists() {
		checkParts(t, Frame(parts...), parts)
	}
	for n := range 600 {
		checkParts(t, Frame(counted(n, 1)), [][]byte{counted(n, 1)})
		checkParts(t, Frame(nil, counted(n, 1), counted(n+1, 2)), [][]byte{nil, counted(n, 1), counted(n+1, 2)})
	}
}

// A frame that is cut off is one again only where a part ends.
func TestPartsOfAFrameThatIsCutOff(t *testing.T) {
	for _, parts := range [][][]byte{
		{nil},
		{[]byte("a")},
		{[]byte("ab"), nil, []byte("c")},
		{nil, nil, []byte("abcdefgh"), []byte("abcdefghi"), nil},
		{counted(20, 1), counted(300, 1), counted(9, 1)},
	} {
		frame := Frame(parts...)
		ends := map[int]int{0: 0}
		for i := range parts {
			ends[len(frameOf(parts[:i+1]...))] = i + 1
		}
		for n := range len(frame) + 1 {
			if whole, ok := ends[n]; ok {
				checkParts(t, frame[:n], parts[:whole])
			} else {
				checkNoFrame(t, frame[:n])
			}
		}
	}
}

// What lies behind a frame is no part unless it is a frame itself.
func TestPartsOfAFrameWithMoreBehindIt(t *testing.T) {
	for _, parts := range lists() {
		if len(parts) > 10 {
			continue
		}
		frame := Frame(parts...)
		for n := 1; n < 8; n++ {
			checkNoFrame(t, append(bytes.Clone(frame), make([]byte, n)...))
			checkNoFrame(t, append(bytes.Clone(frame), counted(n, 250)...))
		}
		checkParts(t, append(bytes.Clone(frame), make([]byte, 8)...), append(slices.Clone(parts), nil))
	}
}

func TestPartsOfALengthThatIsTooGreat(t *testing.T) {
	for have := range 30 {
		var wrong []uint64
		for k := range uint64(70) {
			wrong = append(wrong, uint64(have)+1+k, math.MaxUint64-k, 1<<63+k, 1<<63-1-k, 1<<32+k, 1<<32-1-k, 1<<31+k, 1<<31-1-k, 1<<16+k, 1<<8+k)
		}
		for bit := 5; bit < 64; bit++ {
			wrong = append(wrong, 1<<bit, 1<<bit|uint64(have))
		}
		rest := counted(have, 200)
		for _, n := range wrong {
			b := append(length(n), rest...)
			checkNoFrame(t, b)
			checkNoFrame(t, append(Frame([]byte("good"), nil), b...))
		}
		checkParts(t, append(length(uint64(have)), rest...), [][]byte{rest})
	}
	checkNoFrame(t, []byte{255, 255, 255, 255, 255, 255, 255, 255})
	checkNoFrame(t, []byte{255, 255, 255, 255, 255, 255, 255, 255, 1})
}

// The bytes of a part end where b ends, not where its room does.
func TestPartsLooksAtNoSpareRoom(t *testing.T) {
	room := Frame([]byte("abc"), []byte("de"))
	for _, n := range []int{1, 7, 8, 9, 10, 12, 18, 20} {
		checkNoFrame(t, room[:n])
	}
	checkParts(t, room[:11], [][]byte{[]byte("abc")})
}

// P5.1, P5.3: of all texts of noughts and ones up to 17 bytes just nine are frames.
func TestEveryShortTextOfNoughtsAndOnes(t *testing.T) {
	frames := 0
	for n := range 18 {
		for bits := range 1 << n {
			b := make([]byte, n)
			for i := range b {
				b[i] = byte(bits >> i & 1)
			}
			parts, e := Parts(b)
			switch {
			case e == api.OK && bytes.Equal(frameOf(parts...), b):
				frames++
			case e != api.ErrSyntax || len(parts) != 0:
				t.Fatalf("Parts(%v) = %v, %d", b, parts, e)
			}
		}
	}
	if frames != 9 {
		t.Errorf("%d texts are frames", frames)
	}
}

func FuzzParts(f *testing.F) {
	f.Add([]byte(""))
	f.Add([]byte{0, 0, 0, 0, 0, 0, 0, 1, 'a', 0, 0, 0, 0, 0, 0, 0, 0})
	f.Add([]byte{0, 0, 0, 0, 0, 0, 0, 2, 'a'})
	f.Add([]byte{255, 255, 255, 255, 255, 255, 255, 255, 1})
	f.Fuzz(func(t *testing.T, b []byte) {
		parts, e := Parts(b)
		if e == api.OK && !bytes.Equal(Frame(parts...), b) || e != api.OK && (e != api.ErrSyntax || len(parts) != 0) {
			t.Errorf("Parts(%v) = %v, %d", b, parts, e)
		}
		checkParts(t, Frame(b, nil, b), [][]byte{b, nil, b})
	})
}

// P5.2: Of.

// tagOf is the whole tag in the chapter's own words, by the library.
func tagOf(key []byte, domain, value string) string {
	h := hmac.New(sha256.New, key)
	h.Write(frameOf([]byte("incognito"), []byte(domain), []byte(value)))
	return stdhex.EncodeToString(h.Sum(nil)[:16])
}

func checkTag(t *testing.T, key []byte, domain string, size int, value, want string) {
	t.Helper()
	if s, e := Of(key, domain, size, value); s != want || e != api.OK {
		t.Errorf("Of(%v, %q, %d, %q) = %q, %d, want %q", key, domain, size, value, s, e, want)
	}
}

func TestOfKnownValues(t *testing.T) {
	for _, c := range []struct{ key, domain, value, want string }{
		{"key", "v", "alice", "8c57d0e0ca1dea487668128374244cd8"},
		{"", "v", "alice", "cdfc0c922b240c5750cf45e1cc61f057"},
		{"key", "", "alice", "8627bc9604cd02116b1e16c7c7ddae65"},
		{"key", "v", "", "bf2b09ead27c39b595dd5de680693436"},
		{"", "", "", "bf7418a61dbaa8e1fd56f25c5a70bd81"},
		{strings.Repeat("k", 65), "client", "-7", "34e8930f1bb67c88e56f2f0dae10c2a5"},
		{"\x00\xff", "\xff", "\x00\xc3", "899430077c7cddc01fef7b9514cd7d86"},
	} {
		checkTag(t, []byte(c.key), c.domain, 16, c.value, c.want)
		checkTag(t, []byte(c.key), c.domain, 1, c.value, c.want[:2])
	}
	checkTag(t, nil, "v", 16, "alice", "cdfc0c922b240c5750cf45e1cc61f057")
}

func TestOfEachSizeThatMayNotBe(t *testing.T) {
	for _, size := range []int{0, -1, -2, -16, -17, -256, 17, 18, 31, 32, 33, 64, 255, 256, 257, 272, 1<<31 + 1, math.MaxInt32, math.MinInt32, math.MaxInt, math.MinInt, math.MinInt + 1, math.MinInt + 16} {
		for _, text := range []string{"", "a", "key"} {
			if s, e := Of([]byte(text), text, size, text); e != api.ErrArg || s != "" {
				t.Errorf("Of with size %d = %q, %d", size, s, e)
			}
		}
	}
}

// texts are domains, values and keys: empty, short, with bytes that are no
// signs, and at and around the ends of a block.
func texts() []string {
	return []string{"", "a", "b", "ab", "incognito", "\x00", "\x00\x00", "\xff\xfe", "é日😀", " ", "A",
		strings.Repeat("x", 31), strings.Repeat("x", 63), strings.Repeat("x", 64), strings.Repeat("x", 65), strings.Repeat("x", 1000)}
}

func TestOfEachKeyDomainAndValue(t *testing.T) {
	for _, key := range texts() {
		for _, domain := range texts() {
			for _, value := range texts() {
				checkTag(t, []byte(key), domain, 16, value, tagOf([]byte(key), domain, value))
			}
		}
	}
}

// P5.3: unlike parts have unlike frames.

func TestPartsThatAreCutOtherwise(t *testing.T) {
	for _, text := range [][]byte{[]byte("abcdefghij"), make([]byte, 20), counted(20, 250)} {
		n := len(text)
		frames := map[string]bool{}
		lists := 0
		tell := func(parts ...[]byte) {
			if !bytes.Equal(bytes.Join(parts, nil), text) {
				t.Fatal("these parts are other bytes")
			}
			lists++
			frames[string(Frame(parts...))] = true
		}
		tell(text)
		for i := range n + 1 {
			tell(text[:i], text[i:])
			for j := i; j <= n; j++ {
				tell(text[:i], text[i:j], text[j:])
				for k := j; k <= n; k++ {
					tell(text[:i], text[i:j], text[j:k], text[k:])
				}
			}
		}
		if len(frames) != lists {
			t.Errorf("%d lists of the same bytes have %d frames", lists, len(frames))
		}
	}
}

func TestUnlikeListsOfShortParts(t *testing.T) {
	parts := [][]byte{nil}
	for a := range byte(2) {
		parts = append(parts, []byte{a}, length(uint64(a)))
		for b := range byte(2) {
			parts = append(parts, []byte{a, b})
		}
	}
	frames := map[string]bool{"": true}
	lists := 1
	for _, a := range parts {
		frames[string(Frame(a))] = true
		for _, b := range parts {
			frames[string(Frame(a, b))] = true
			for _, c := range parts {
				frames[string(Frame(a, b, c))] = true
				lists++
			}
			lists++
		}
		lists++
	}
	if len(frames) != lists {
		t.Errorf("%d lists have %d frames", lists, len(frames))
	}
}

// P5.3: what a value is called hangs on the key, the domain, the size and the value alone.

func TestUnlikeKeysDomainsAndValuesHaveUnlikeTags(t *testing.T) {
	// Keys of one block have one seal, so that no key here is another one with
	// noughts behind it.
	keys := []string{"", "a", "b", "ab", "ba", "\x00a", strings.Repeat("x", 64), strings.Repeat("x", 65)}
	words := []string{"", "a", "b", "ab", "ba", "aa", "aab", "incognito", "\x00", "\x00\x00", "A", strings.Repeat("x", 65)}
	seen := map[string]bool{}
	for _, key := range keys {
		for _, domain := range words {
			for _, value := range words {
				s, _ := Of([]byte(key), domain, 16, value)
				if seen[s] {
					t.Errorf("%q of domain %q under %q has the tag of another", value, domain, key)
				}
				seen[s] = true
			}
		}
	}
}

func TestDomainAndValueAreApart(t *testing.T) {
	key, text := []byte("key"), "abcdefghijklmnop"
	seen := map[string]int{}
	for i := range len(text) + 1 {
		s, _ := Of(key, text[:i], 16, text[i:])
		if j, ok := seen[s]; ok {
			t.Errorf("one tag, whether the domain ends at %d or at %d", i, j)
		}
		seen[s] = i
	}
}

func TestKeysOfOneBlockHaveOneTag(t *testing.T) {
	long := counted(65, 3)
	digest := sha256.Sum256(long)
	for _, keys := range [][2][]byte{{nil, {}}, {nil, make([]byte, 64)}, {[]byte("key"), []byte("key\x00\x00")}, {long, digest[:]}} {
		for size := 1; size <= 16; size++ {
			s, _ := Of(keys[0], "v", size, "alice")
			checkTag(t, keys[1], "v", size, "alice", s)
		}
	}
}

// Neither calls ahead of it, nor where its arguments lie, nor what lies behind them.
func TestTagHangsOnNothingElse(t *testing.T) {
	want := tagOf([]byte("key"), "v", "alice")
	page := []byte("keyvaliceandmore")
	for i := range 20 {
		Of(page[:i%16], "w", i-2, "bob")
		Frame(page, page[:i%16])
		Parts(page)
		checkTag(t, page[:3], string(page[3:4]), 16, string(page[4:9]), want)
		page[15]++
	}
	for size := 16; size >= 1; size-- {
		checkTag(t, []byte("key"), "v", size, "alice", want[:2*size])
	}
}

// P5.3: a shorter tag is what a longer one begins with.

func TestTagsOfEverySize(t *testing.T) {
	for _, key := range texts() {
		for _, text := range texts() {
			whole := tagOf([]byte(key), "v", text)
			longer, _ := Of([]byte(key), "v", 16, text)
			for size := 16; size >= 1; size-- {
				checkTag(t, []byte(key), "v", size, text, whole[:2*size])
				s, _ := Of([]byte(key), "v", size, text)
				if len(s) != 2*size || !strings.HasPrefix(longer, s) {
					t.Errorf("the tag %q of size %d isn't what %q begins with", s, size, longer)
				}
				longer = s
			}
		}
	}
}

func FuzzOf(f *testing.F) {
	f.Add([]byte("key"), "v", 16, "alice")
	f.Add([]byte(nil), "", 1, "")
	f.Add(counted(65, 1), "v", 0, "\xff")
	f.Add([]byte("key"), "v", 17, "alice")
	f.Add([]byte("key"), "v", -1, "alice")
	f.Fuzz(func(t *testing.T, key []byte, domain string, size int, value string) {
		s, e := Of(key, domain, size, value)
		if size < 1 || size > 16 {
			if s != "" || e != api.ErrArg {
				t.Errorf("Of with size %d = %q, %d", size, s, e)
			}
			return
		}
		checkTag(t, key, domain, size, value, tagOf(key, domain, value)[:2*size])
	})
}

// R4: what is handed in isn't changed and isn't kept, what is answered is new memory.

func TestArgumentsStay(t *testing.T) {
	page := counted(300, 1)
	parts := [][]byte{page[:3], page[3:3], page[3:80], page[:80], page[80:90]}
	partsThen := slices.Clone(parts)
	Frame(parts[:3]...)
	frame := Frame(counted(9, 1), nil, counted(70, 1))
	frame = append(frame, counted(20, 9)...)
	frameThen := bytes.Clone(frame)
	Parts(frame[:len(frame)-20])
	Parts(frame)
	for _, n := range []int{0, 1, 63, 64, 65, 131} {
		Of(page[:n], "v", 16, "alice")
		Of(page[:n], "v", 17, "alice")
	}
	if !bytes.Equal(page, counted(300, 1)) || !bytes.Equal(frame, frameThen) {
		t.Error("the bytes handed in have changed")
	}
	if !slices.EqualFunc(parts, partsThen, bytes.Equal) {
		t.Error("the list of parts handed in has changed")
	}
}

// spoil overwrites b, its spare room included.
func spoil(b []byte) {
	b = b[:cap(b)]
	for i := range b {
		b[i] = ^b[i]
	}
}

func TestFrameIsNew(t *testing.T) {
	for _, parts := range [][][]byte{{counted(5, 1)}, {counted(100, 1), nil, counted(3, 1)}, {make([]byte, 0, 50)}, {nil}} {
		handed := make([][]byte, len(parts))
		for i, p := range parts {
			handed[i] = append(bytes.Clone(p), 1, 2, 3)[:len(p)]
		}
		first, second := Frame(handed...), Frame(handed...)
		spoil(first)
		for i, p := range handed {
			if !bytes.Equal(p[:len(p)+3], append(bytes.Clone(parts[i]), 1, 2, 3)) {
				t.Errorf("part %d shares memory with its frame", i)
			}
			spoil(p)
		}
		if !bytes.Equal(second, frameOf(parts...)) {
			t.Error("a frame shares memory with its parts or an earlier frame")
		}
	}
}

func TestPartsAreNew(t *testing.T) {
	want := [][]byte{counted(5, 1), nil, counted(33, 7), {0}, nil, counted(200, 3)}
	frame := frameOf(want...)
	for spoilt := range want {
		first, _ := Parts(frame)
		second, _ := Parts(frame)
		if len(first) != len(want) || len(second) != len(want) {
			t.Fatalf("Parts answers %d and %d parts, want %d", len(first), len(second), len(want))
		}
		spoil(first[spoilt])
		if !bytes.Equal(frame, frameOf(want...)) {
			t.Fatalf("part %d shares memory with the frame", spoilt)
		}
		for i := range want {
			if i != spoilt && !bytes.Equal(first[i], want[i]) {
				t.Errorf("parts %d and %d share memory", spoilt, i)
			}
		}
		clear(first[:cap(first)])
		if !slices.EqualFunc(second, want, bytes.Equal) {
			t.Error("parts share memory with an earlier answer's")
		}
	}
	parts, _ := Parts(frame)
	spoil(frame)
	if !slices.EqualFunc(parts, want, bytes.Equal) {
		t.Error("parts share memory with the frame")
	}
}

func TestTagsAreNew(t *testing.T) {
	key := []byte("key")
	s, _ := Of(key, "v", 16, "alice")
	spoil(key)
	if want := tagOf([]byte("key"), "v", "alice"); s != want {
		t.Errorf("a tag is %q, was %q", s, want)
	}
}
