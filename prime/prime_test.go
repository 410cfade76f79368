package prime

import (
	"math"
	"math/big"
	"slices"
	"testing"

	"incognito/api"
)

// sieve tells of each number up to n whether it is a prime, by crossing out
// what is a multiple.
func sieve(n int) []bool {
	is := make([]bool, n+1)
	for i := 2; i <= n; i++ {
		is[i] = true
	}
	for i := 2; i*i <= n; i++ {
		for m := i * i; is[i] && m <= n; m += i {
			is[m] = false
		}
	}
	return is
}

// whole is the whole part of the k-th root of p.
func whole(p, k int) int {
	w := 0
	for pow(w+1, k) <= p {
		w++
	}
	return w
}

func pow(n, k int) int {
	product := 1
	for range k {
		product *= n
	}
	return product
}

// scaled is w 2^32 + f: the root with its whole part, times 2^32.
func scaled(t *testing.T, p, k int) *big.Int {
	t.Helper()
	f, e := Root(p, k)
	if e != api.OK {
		t.Fatalf("Root(%d, %d): error %d", p, k, e)
	}
	return big.NewInt(int64(whole(p, k))<<32 + int64(f))
}

// P2.1: Is.

func TestIsOfEachNumber(t *testing.T) {
	want := sieve(1 << 20)
	count := 0
	for n, prime := range want {
		if Is(n) != prime {
			t.Errorf("Is(%d) = %v", n, !prime)
		}
		if prime {
			count++
		}
	}
	if count != 82025 {
		t.Errorf("%d primes up to 2^20", count)
	}
}

func TestIsOfKnownNumbers(t *testing.T) {
	for _, n := range []int{2, 3, 5, 7, 11, 13, 97, 541, 997, 1009, 1021, 1031, 65537, 1048571, 1048573} {
		if !Is(n) {
			t.Errorf("Is(%d) is false", n)
		}
	}
	for _, n := range []int{
		0, 1, 4, 6, 8, 9, 15, 25, 49, 91, 121, 561, 1000, 1023, 1024, 1025,
		1009 * 1009, 1013 * 1013, 1019 * 1019, 1021 * 1021, 1019 * 1021, 1013 * 1031, // with great divisors only
		1<<20 - 1, 1 << 20,
	} {
		if Is(n) {
			t.Errorf("Is(%d) is true", n)
		}
	}
}

func TestIsOfNumbersOutside(t *testing.T) {
	for _, n := range []int{
		-1, -2, -3, -5, -7, -541, -1048573, math.MinInt, math.MinInt + 1, // below
		1<<20 + 1, 1<<20 + 2, 1<<20 + 3, 1048583, 1048589, // just beyond, primes among them
		1031 * 1031, 1<<31 - 1, 1<<32 + 2, 1<<32 + 3, 1<<32 + 15, 1 << 40, 1<<61 - 1, math.MaxInt, // far beyond
	} {
		if Is(n) {
			t.Errorf("Is(%d) is true", n)
		}
	}
	for n := range 1000 {
		if Is(-n) || Is(1<<20+n) {
			t.Errorf("Is of %d below 0 or beyond 2^20 is true", n)
		}
	}
	if !big.NewInt(1048583).ProbablyPrime(20) {
		t.Error("1048583 is to be a prime that lies beyond")
	}
}

// P2.1: Nth.

func TestNth(t *testing.T) {
	i := 0
	for n, prime := range sieve(541) {
		if !prime {
			continue
		}
		if p := Nth(i); p != n {
			t.Errorf("Nth(%d) = %d, want %d", i, p, n)
		}
		i++
	}
	if i != 100 {
		t.Errorf("%d primes up to 541", i)
	}
	for _, c := range [][2]int{{0, 2}, {1, 3}, {2, 5}, {3, 7}, {7, 19}, {63, 311}, {98, 523}, {99, 541}} {
		if p := Nth(c[0]); p != c[1] {
			t.Errorf("Nth(%d) = %d, want %d", c[0], p, c[1])
		}
	}
}

func TestNthOutside(t *testing.T) {
	for _, i := range []int{-1, -2, -100, math.MinInt, 100, 101, 1000, 82025, 1 << 20, 1 << 32, 1<<32 + 3, math.MaxInt} {
		if p := Nth(i); p != 0 {
			t.Errorf("Nth(%d) = %d, want 0", i, p)
		}
	}
}

// P2.1: the iterator that they come from.

func TestPrimesAreToldUntilAskedNoMore(t *testing.T) {
	var got []int
	for p := range primes {
		got = append(got, p)
		if p == 13 {
			break
		}
	}
	if !slices.Equal(got, []int{2, 3, 5, 7, 11, 13}) {
		t.Errorf("primes up to 13: %v", got)
	}
	last := 0
	for p := range primes {
		if p <= last {
			t.Fatalf("%d behind %d", p, last)
		}
		last = p
	}
	if last != 1048573 {
		t.Errorf("the last prime told is %d", last)
	}
}

// P2.2: Root.

func TestRootByBothInequalities(t *testing.T) {
	for k := 2; k <= 3; k++ {
		exponent := big.NewInt(int64(k))
		for p := 2; p <= 1000; p++ {
			bound := new(big.Int).Lsh(big.NewInt(int64(p)), uint(32*k))
			root := scaled(t, p, k)
			if new(big.Int).Exp(root, exponent, nil).Cmp(bound) > 0 {
				t.Errorf("Root(%d, %d): %d is too great", p, k, root)
			}
			next := new(big.Int).Add(root, big.NewInt(1))
			if next.Exp(next, exponent, nil).Cmp(bound) <= 0 {
				t.Errorf("Root(%d, %d): %d is too small", p, k, root)
			}
		}
	}
}

func TestRootOfKnownNumbers(t *testing.T) {
	for i, want := range []uint32{
		0x6a09e667, 0xbb67ae85, 0x3c6ef372, 0xa54ff53a, 0x510e527f, 0x9b05688c, 0x1f83d9ab, 0x5be0cd19,
	} {
		if f, e := Root(Nth(i), 2); e != api.OK || f != want {
			t.Errorf("Root(%d, 2) = %#x, %d, want %#x", Nth(i), f, e, want)
		}
	}
	for i, want := range map[int]uint32{
		0: 0x428a2f98, 1: 0x71374491, 2: 0xb5c0fbcf, 3: 0xe9b5dba5, 15: 0xc19bf174, 62: 0xbef9a3f7, 63: 0xc67178f2,
	} {
		if f, e := Root(Nth(i), 3); e != api.OK || f != want {
			t.Errorf("Root(%d, 3) = %#x, %d, want %#x", Nth(i), f, e, want)
		}
	}
	if f, e := Root(2, 2); e != api.OK || f != 1779033703 {
		t.Errorf("Root(2, 2) = %d, %d", f, e)
	}
}

func TestRootOfSquaresAndCubes(t *testing.T) {
	for k := 2; k <= 3; k++ {
		for w := 2; pow(w, k) <= 1000; w++ {
			p := pow(w, k)
			if f, e := Root(p, k); e != api.OK || f != 0 {
				t.Errorf("Root(%d, %d) = %d, %d, want no fraction", p, k, f, e)
			}
			if f, e := Root(p-1, k); e != api.OK || f < 1<<31 {
				t.Errorf("Root(%d, %d) = %d, %d, want most of 2^32", p-1, k, f, e)
			}
			if p == 1000 {
				continue
			}
			if f, e := Root(p+1, k); e != api.OK || f == 0 || f >= 1<<31 {
				t.Errorf("Root(%d, %d) = %d, %d, want little of 2^32", p+1, k, f, e)
			}
		}
	}
}

func TestRootOfOthersHasAFraction(t *testing.T) {
	for k := 2; k <= 3; k++ {
		for p := 2; p <= 1000; p++ {
			if f, e := Root(p, k); e != api.OK || (f == 0) != (pow(whole(p, k), k) == p) {
				t.Errorf("Root(%d, %d) = %d, %d", p, k, f, e)
			}
		}
	}
}

func TestRootRefuses(t *testing.T) {
	wrong := func(p, k int) {
		t.Helper()
		if f, e := Root(p, k); e != api.ErrArg || f != 0 {
			t.Errorf("Root(%d, %d) = %d, %d, want ErrArg and 0", p, k, f, e)
		}
	}
	right := []int{2, 3, 4, 8, 64, 729, 999, 1000}
	for _, p := range []int{1, 0, -1, -2, -4, -8, math.MinInt, 1001, 1002, 1024, 1331, 1<<32 + 2, math.MaxInt} {
		for _, k := range []int{2, 3, 1, 4} {
			wrong(p, k)
		}
	}
	for _, k := range []int{1, 0, -1, -2, -3, math.MinInt, 4, 5, 6, 64, 1<<32 + 2, 1<<32 + 3, math.MaxInt} {
		for _, p := range right {
			wrong(p, k)
		}
	}
	for _, p := range right {
		for k := 2; k <= 3; k++ {
			if _, e := Root(p, k); e != api.OK {
				t.Errorf("Root(%d, %d): error %d", p, k, e)
			}
		}
	}
}

// P2.3: roots of a greater p aren't less.

func TestRootsRise(t *testing.T) {
	for k := 2; k <= 3; k++ {
		last := scaled(t, 2, k)
		for p := 3; p <= 1000; p++ {
			root := scaled(t, p, k)
			if root.Cmp(last) < 0 {
				t.Errorf("the root of %d by %d is less than that of %d", p, k, p-1)
			}
			last = root
		}
	}
}
