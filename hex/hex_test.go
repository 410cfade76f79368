package hex

import (
	"bytes"
	stdhex "encoding/hex"
	"math"
	"strings"
	"testing"

	"incognito/api"
)

// everyByte is all 256 bytes, in order.
func everyByte() []byte {
	b := make([]byte, 256)
	for i := range b {
		b[i] = byte(i)
	}
	return b
}

// P1.1: Encode.

func TestEncode(t *testing.T) {
	for _, c := range []struct {
		b    []byte
		want string
	}{
		{nil, ""},
		{[]byte{}, ""},
		{[]byte{0}, "00"},
		{[]byte{1}, "01"},
		{[]byte{16}, "10"},
		{[]byte{10, 255}, "0aff"},
		{[]byte{0, 0, 0}, "000000"},
		{[]byte{0x12, 0x34, 0x56, 0x78, 0x9a, 0xbc, 0xde, 0xf0, 0x0f}, "123456789abcdef00f"},
	} {
		if s := Encode(c.b...); s != c.want {
			t.Errorf("Encode(%v) = %q, want %q", c.b, s, c.want)
		}
	}
	if s := Encode(); s != "" {
		t.Errorf("Encode() = %q", s)
	}
	if s := Encode(10, 255); s != "0aff" {
		t.Errorf("Encode(10, 255) = %q", s)
	}
	all := everyByte()
	if s := Encode(all...); s != stdhex.EncodeToString(all) {
		t.Errorf("Encode of all bytes = %q", s)
	}
}

// P1.1: Digit.

func TestDigitOfEachByte(t *testing.T) {
	for c := range 256 {
		want := strings.IndexByte("0123456789abcdef", byte(c))
		if d := Digit(byte(c)); d != want {
			t.Errorf("Digit(%d) = %d, want %d", c, d, want)
		}
	}
}

// P1.1: Decode.

func TestDecode(t *testing.T) {
	for _, c := range []struct {
		s    string
		want []byte
	}{
		{"", nil},
		{"00", []byte{0}},
		{"0aff", []byte{10, 255}},
		{"f00f", []byte{0xf0, 0x0f}},
		{"0123456789abcdef", []byte{0x01, 0x23, 0x45, 0x67, 0x89, 0xab, 0xcd, 0xef}},
	} {
		if b, e := Decode(c.s); e != api.OK || !bytes.Equal(b, c.want) {
			t.Errorf("Decode(%q) = %v, %d, want %v", c.s, b, e, c.want)
		}
	}
}

func TestDecodeRefuses(t *testing.T) {
	for _, s := range []string{
		"0", "000", "0aff0", // an odd number of digits
		"0A", "A0", "0F", "FF", "aB", "00FF", "FF00", // capital letters
		"0g", "g0", "0/", "0:", "0`", "0@", "0G", // the neighbours of digits
		"0x", "0x00", "-1", "+1", " 0", "0 ", " 00 ", "00 0", "00\n", "00\n\n", "\x00\x00", "0\x00",
		"é", "0é", "0é0", "00é", "é00", // two bytes of one sign
		"日", "日0", "0日", "日本", "😀", "00😀", // three and four
		"İİ", "0İ0", "ʰʱ", "š1", // signs whose numbers end like those of digits
		"٠٠", "００", "ａｆ", // digits of other scripts, and wide ones
		"\xff", "\xff\xff", "0\xff", "\xff0", "00\xff\xff", "\x80\x80", "\xb0\xb1", "\xe1\xe6", // no signs at all
		"\xc3\xa9\xc3", "\xe6\x97", "\xed\xa0\x80\x80", "\ufffd0", "\ufeff0", // cut off, and the sign that stands for none
	} {
		if b, e := Decode(s); e != api.ErrSyntax || len(b) != 0 {
			t.Errorf("Decode(%q) = %v, %d, want ErrSyntax and nothing", s, b, e)
		}
	}
}

func TestDecodeTellsNothingBesideAFaultFarBehind(t *testing.T) {
	good := strings.Repeat("7f", 1000)
	for _, s := range []string{good + "7", good + "7F", good + "é", good + "\xff\xff", "G0" + good} {
		if b, e := Decode(s); e != api.ErrSyntax || len(b) != 0 {
			t.Errorf("Decode of %d bytes: %d bytes, %d", len(s), len(b), e)
		}
	}
}

// P1.3: what was encoded is decoded, and each text has one reading.

func TestEveryTextOfTwoBytes(t *testing.T) {
	readings := 0
	for high := range 256 {
		for low := range 256 {
			s := string([]byte{byte(high), byte(low)})
			b, e := Decode(s)
			if h, l := Digit(byte(high)), Digit(byte(low)); h < 0 || l < 0 {
				if e != api.ErrSyntax || len(b) != 0 {
					t.Errorf("Decode(%q) = %v, %d", s, b, e)
				}
				continue
			} else if e != api.OK || len(b) != 1 || int(b[0]) != 16*h+l || Encode(b...) != s {
				t.Errorf("Decode(%q) = %v, %d", s, b, e)
			}
			readings++
		}
	}
	if readings != 256 {
		t.Errorf("%d texts of two bytes have a reading", readings)
	}
}

func TestDecodeOfEncode(t *testing.T) {
	all := everyByte()
	for from := range all {
		for _, to := range []int{from, min(from+1, 256), min(from+9, 256), 256} {
			want := all[from:to]
			s := Encode(want...)
			if len(s) != 2*len(want) {
				t.Errorf("Encode(%v) has %d bytes", want, len(s))
			}
			if b, e := Decode(s); e != api.OK || !bytes.Equal(b, want) {
				t.Errorf("Decode(%q) = %v, %d", s, b, e)
			}
		}
	}
}

func FuzzDecode(f *testing.F) {
	for _, s := range []string{"", "00", "0aff", "0", "0A", "İİ", "\xff\xff", "0é0"} {
		f.Add(s)
	}
	f.Fuzz(func(t *testing.T, s string) {
		b, e := Decode(s)
		want, err := stdhex.DecodeString(s)
		if err != nil || s != stdhex.EncodeToString(want) {
			if e != api.ErrSyntax || len(b) != 0 {
				t.Errorf("Decode(%q) = %v, %d", s, b, e)
			}
		} else if e != api.OK || !bytes.Equal(b, want) {
			t.Errorf("Decode(%q) = %v, %d", s, b, e)
		}
	})
}

// P1.2: Big.

func TestBig(t *testing.T) {
	const n = 0x0123456789abcdef
	whole := []byte{0x01, 0x23, 0x45, 0x67, 0x89, 0xab, 0xcd, 0xef}
	for size := 1; size <= 8; size++ {
		if b := Big(n, size); !bytes.Equal(b, whole[8-size:]) {
			t.Errorf("Big(n, %d) = %v", size, b)
		}
		if b := Big(math.MaxUint64, size); !bytes.Equal(b, bytes.Repeat([]byte{255}, size)) {
			t.Errorf("Big of the greatest, %d = %v", size, b)
		}
		if b := Big(0, size); !bytes.Equal(b, make([]byte, size)) {
			t.Errorf("Big(0, %d) = %v", size, b)
		}
	}
	if b := Big(258, 3); !bytes.Equal(b, []byte{0, 1, 2}) {
		t.Errorf("Big(258, 3) = %v", b)
	}
	if b := Big(256, 1); !bytes.Equal(b, []byte{0}) {
		t.Errorf("Big(256, 1) = %v", b)
	}
	for _, size := range []int{9, 10, 64, 1 << 40, math.MaxInt} {
		if b := Big(n, size); !bytes.Equal(b, whole) {
			t.Errorf("Big(n, %d) = %v", size, b)
		}
	}
	for _, size := range []int{0, -1, -8, math.MinInt} {
		if b := Big(n, size); len(b) != 0 {
			t.Errorf("Big(n, %d) = %v", size, b)
		}
	}
}

// P1.2: Num.

func TestNum(t *testing.T) {
	for _, c := range []struct {
		b    []byte
		want uint64
		ok   bool
	}{
		{nil, 0, true},
		{[]byte{}, 0, true},
		{[]byte{0}, 0, true},
		{[]byte{255}, 255, true},
		{[]byte{1, 2}, 258, true},
		{[]byte{0, 1, 2}, 258, true},
		{[]byte{1, 0, 0, 0, 0}, 1 << 32, true},
		{[]byte{128, 0, 0, 0, 0, 0, 0, 0}, 1 << 63, true},
		{bytes.Repeat([]byte{255}, 8), math.MaxUint64, true},
		{make([]byte, 9), 0, false},
		{[]byte{0, 0, 0, 0, 0, 0, 0, 0, 5}, 0, false},
		{bytes.Repeat([]byte{255}, 9), 0, false},
		{bytes.Repeat([]byte{1}, 1000), 0, false},
	} {
		if n, ok := Num(c.b...); n != c.want || ok != c.ok {
			t.Errorf("Num(%v) = %d, %v, want %d, %v", c.b, n, ok, c.want, c.ok)
		}
	}
	if n, ok := Num(); n != 0 || !ok {
		t.Errorf("Num() = %d, %v", n, ok)
	}
}

func TestNumOfBig(t *testing.T) {
	for shift := range 64 {
		for _, n := range []uint64{1 << shift, 1<<shift - 1, math.MaxUint64 - 1<<shift, 0x0123456789abcdef >> shift} {
			for size := 1; size <= 8; size++ {
				b := Big(n, size)
				want := n << (64 - 8*size) >> (64 - 8*size)
				got, ok := Num(b...)
				if got != want || !ok {
					t.Errorf("Num(Big(%d, %d)) = %d, %v", n, size, got, ok)
				}
				if again := Big(got, len(b)); !bytes.Equal(again, b) {
					t.Errorf("Big(%d, %d) = %v, want %v", got, len(b), again, b)
				}
			}
		}
	}
}

// R4: what is handed in isn't changed, what is answered is new memory.

func TestArgumentsStay(t *testing.T) {
	room := []byte{1, 2, 3, 4, 5}
	Encode(room[:3]...)
	Num(room[:3]...)
	if !bytes.Equal(room, []byte{1, 2, 3, 4, 5}) {
		t.Errorf("the bytes handed in are %v now", room)
	}
}

func TestAnswersAreNew(t *testing.T) {
	spoil := func(b []byte) {
		b = b[:cap(b)]
		for i := range b {
			b[i] = 99
		}
	}
	first, _ := Decode("0102")
	second, _ := Decode("0102")
	spoil(first)
	if third, _ := Decode("0102"); !bytes.Equal(second, []byte{1, 2}) || !bytes.Equal(third, []byte{1, 2}) {
		t.Errorf("Decode: %v, %v", second, third)
	}
	first, second = Big(258, 2), Big(258, 2)
	spoil(first)
	if third := Big(258, 2); !bytes.Equal(second, []byte{1, 2}) || !bytes.Equal(third, []byte{1, 2}) {
		t.Errorf("Big: %v, %v", second, third)
	}
}
