package csum_test

import (
	"fmt"
	"math"
	"slices"
	"strings"
	"testing"

	"aqueduct/csum"
)

// edges are 16-bit numbers at which sums begin to carry, and some others.
var edges = []uint16{0, 1, 2, 0x7f, 0x80, 0xff, 0x100, 0x101, 0x1234, 0x7fff, 0x8000, 0x8001, 0xa5c3, 0xfeff, 0xff00, 0xff01, 0xfffd, 0xfffe, 0xffff}

// total is the plain sum of sum and of the words of s, with no carry.
func total(sum uint16, s string) uint64 {
	n := uint64(sum)
	for i := 0; i < len(s); i++ {
		if i%2 == 0 {
			n += 256 * uint64(s[i])
		} else {
			n += uint64(s[i])
		}
	}
	return n
}

// folded is the one's complement sum of numbers with the plain sum n: 0 if all
// of them are 0, and otherwise the number from 1 to 65535 that is n modulo 65535.
func folded(n uint64) uint16 {
	if n == 0 {
		return 0
	}
	return uint16((n-1)%65535 + 1)
}

// scattered has n bytes without a pattern that a sum could have in common.
func scattered(n int, seed uint32) string {
	b := make([]byte, n)
	for i := range b {
		seed = seed*1664525 + 1013904223
		b[i] = byte(seed >> 24)
	}
	return string(b)
}

// samples are byte strings of even and odd lengths, with small and great sums.
func samples() []string {
	l := []string{
		"", "a", "ab", "abc", "abcd",
		"\x00\x01\xf2\x03\xf4\xf5\xf6\xf7",
		"\xff\xfe\x00\x01",         // 65535
		"\xff\xff\x00\x01",         // 65536
		"\xff\xff\x00\x02",         // 65537
		"\xff\xff\xff\xff",         // 131070
		"\xff\xff\xff\xff\x00\x01", // 131071
		"\xff\x00\x00\xff", "\x80\x00\x80\x00", "\x80\x00\x7f\xff", "\xff\xff\x01", "\xff\x00\x01",
	}
	for _, n := range []int{1, 2, 3, 4, 5, 64, 65, 1000, 1001} {
		l = append(l, strings.Repeat("\x00", n), strings.Repeat("\xff", n), scattered(n, uint32(n)))
	}
	return l
}

func bytesOf(w uint16) string { return string([]byte{byte(w >> 8), byte(w)}) }

// short is s as a message shows it.
func short(s string) string {
	if len(s) <= 16 {
		return fmt.Sprintf("%q", s)
	}
	return fmt.Sprintf("%q.. of %d bytes", s[:16], len(s))
}

func checkOn(t *testing.T, sum uint16, s string, want uint16) {
	t.Helper()
	if n := csum.On(sum, s); n != want {
		t.Errorf("On(%#x, %s) = %#x; want %#x", sum, short(s), n, want)
	}
}

func checkSum(t *testing.T, s string, want uint16) {
	t.Helper()
	if n := csum.Sum(s); n != want {
		t.Errorf("Sum(%s) = %#x; want %#x", short(s), n, want)
	}
}

func checkRight(t *testing.T, s string, want bool) {
	t.Helper()
	if b := csum.Right(s); b != want {
		t.Errorf("Right(%s) = %v; want %v", short(s), b, want)
	}
}

func checkUpdate(t *testing.T, sum, old, now, want uint16) {
	t.Helper()
	if n := csum.Update(sum, old, now); n != want {
		t.Errorf("Update(%#x, %#x, %#x) = %#x; want %#x", sum, old, now, n, want)
	}
}

func checkJoin(t *testing.T, a, b uint16, bytes int, want uint16) {
	t.Helper()
	if n := csum.Join(a, b, bytes); n != want {
		t.Errorf("Join(%#x, %#x, %d) = %#x; want %#x", a, b, bytes, n, want)
	}
}

// P2.1

func TestOnExamples(t *testing.T) {
	checkOn(t, 0, "\x00\x01\xf2\x03\xf4\xf5\xf6\xf7", 0xddf2)
	checkSum(t, "\x00\x01\xf2\x03\xf4\xf5\xf6\xf7", 0x220d)
	checkOn(t, 0, "a", 0x6100)
}

func TestOnWords(t *testing.T) {
	for _, x := range []struct {
		sum  uint16
		s    string
		want uint16
	}{
		{0, "", 0},
		{1, "", 1},
		{0xffff, "", 0xffff},
		{0, "\x00", 0},
		{0, "\x01", 0x100},
		{0, "\xff", 0xff00},
		{0, "\x00\x01", 1},
		{0, "\x01\x00", 0x100},
		{0, "ab", 0x6162},
		{0, "abc", 0xc462},
		{0xffff, "\x00", 0xffff},
		{0xffff, "\x01", 0x100},
		{0x1000, "\xff", 0x0f01},
		{0x100, "\xff", 1},
		{0xff, "\xff", 0xffff},
	} {
		checkOn(t, x.sum, x.s, x.want)
	}
}

func TestOnCarries(t *testing.T) {
	for _, x := range []struct {
		sum  uint16
		s    string
		want uint16
	}{
		{0, "\xff\xfe\x00\x01", 0xffff}, // 65535 stands as it is
		{0, "\xff\xff\x00\x01", 1},      // 65536
		{0, "\xff\xff\x00\x02", 2},      // 65537
		{0, "\xff\xff\xff\xfe", 0xfffe}, // 131069
		{0, "\xff\xff\xff\xff", 0xffff}, // 131070
		{0, "\x80\x00\x80\x00", 1},
		{0, "\x80\x00\x7f\xff", 0xffff},
		{1, "\xff\xfe", 0xffff},
		{1, "\xff\xff", 1},
		{5, "\xff\xfe", 4},
		{0xffff, "\x00\x01", 1},
		{0xffff, "\x00\x00", 0xffff},
		{0xffff, "\xff\xff", 0xffff},
		{0xfffe, "\xff\xff", 0xfffe},
		{0xfffe, "\x00\x01\x00\x01", 1},
	} {
		checkOn(t, x.sum, x.s, x.want)
	}
}

func TestOnSamples(t *testing.T) {
	for _, s := range samples() {
		for _, sum := range edges {
			checkOn(t, sum, s, folded(total(sum, s)))
		}
		checkSum(t, s, 65535-folded(total(0, s)))
		checkRight(t, s, folded(total(0, s)) == 65535)
	}
}

// Every word is added to the sums at which a carry begins.
func TestOnEveryWord(t *testing.T) {
	for w := range 1 << 16 {
		s := bytesOf(uint16(w))
		for _, sum := range []uint16{0, 1, 0x8000, 0xfffe, 0xffff} {
			checkOn(t, sum, s, folded(uint64(sum)+uint64(w)))
		}
		checkSum(t, s, uint16(65535-w))
	}
}

func TestOnLong(t *testing.T) {
	for _, n := range []int{65535, 65536, 131072, 131074, 1 << 20, 1<<20 + 1} {
		for _, s := range []string{scattered(n, 7), strings.Repeat("\x00", n), strings.Repeat("\xff", n)} {
			for _, sum := range []uint16{0, 1, 0xffff} {
				checkOn(t, sum, s, folded(total(sum, s)))
			}
			checkSum(t, s, 65535-folded(total(0, s)))
		}
	}
	// The plain sum of these words has more than 32 bits.
	checkOn(t, 0, strings.Repeat("\xff\xff", 1<<17), 0xffff)
	checkOn(t, 0, strings.Repeat("\xff\xff", 1<<17)+"\x00\x01", 1)
}

func TestSumEdges(t *testing.T) {
	checkSum(t, "", 0xffff)
	checkSum(t, "\x00", 0xffff)
	checkSum(t, "\x00\x00", 0xffff)
	checkSum(t, "\xff\xff", 0)
	checkSum(t, "\xff\xff\xff\xff", 0)
	checkSum(t, "\xff", 0x00ff)
	checkSum(t, "a", 0x9eff)
	checkSum(t, "\xff\xff\x00\x01", 0xfffe)
}

func TestRightEdges(t *testing.T) {
	for _, s := range []string{"\xff\xff", "\xff\xff\xff\xff", "\x12\x34\xed\xcb", "\xff\xfe\x00\x01", "\xff\xff\x00\x00", "\x00\x00\xff\xff", "\xff\xff\x00", "\x01\xff\xfe", "\xff\x00\x00\xff"} {
		checkRight(t, s, true)
	}
	for _, s := range []string{"", "\x00", "\x00\x00", "\xff", "\xff\xfe", "\x00\x01", "\x12\x34", "\xff\xff\x00\x01", "\xff\xff\x01", "\x12\x34\xed\xcc"} {
		checkRight(t, s, false)
	}
}

// P2.2

func TestUpdateValues(t *testing.T) {
	for _, x := range []struct{ sum, old, now, want uint16 }{
		{0x220d, 1, 2, 0x220c},
		{0x220d, 0xf203, 0xf203, 0x220d},
		{0xdd2f, 0x5555, 0x3285, 0}, // the example of RFC 1624
		{0, 0, 0, 0},
		{0, 0, 1, 0xfffe},
		{0, 1, 0, 1},
		{0, 0xffff, 0, 0},
		{0, 0xffff, 0xffff, 0},
		{0, 0, 0xffff, 0},
		{0xffff, 0, 0, 0},
		{0xffff, 0, 1, 0xfffe},
		{0xffff, 1, 0, 1},
		{0xffff, 0xffff, 0, 0xffff},
		{0xffff, 0xffff, 0xffff, 0},
		{0xffff, 0, 0xffff, 0},
	} {
		checkUpdate(t, x.sum, x.old, x.now, x.want)
	}
}

func TestUpdateEdges(t *testing.T) {
	for _, sum := range edges {
		for _, old := range edges {
			for _, now := range edges {
				plain := uint64(65535-sum) + uint64(65535-old) + uint64(now)
				checkUpdate(t, sum, old, now, 65535-folded(plain))
			}
		}
	}
}

func TestJoinValues(t *testing.T) {
	for _, x := range []struct {
		a, b  uint16
		bytes int
		want  uint16
	}{
		{1, 0x1234, 2, 0x1235},
		{1, 0x1234, 1, 0x3413},
		{1, 0x1234, 0, 0x1235},
		{1, 0x1234, -1, 0x3413},
		{1, 0x1234, -2, 0x1235},
		{0xffff, 1, 0, 1},
		{0xffff, 1, 1, 0x100},
		{0xff01, 0x00ff, 0, 1},
		{0xff01, 0x00ff, 1, 0xfe02},
		{0x1234, 1, 1, 0x1334}, // the bytes of b alone change places
		{0, 0, 1, 0},
		{0, 0xffff, 1, 0xffff},
		{0xffff, 0xffff, 1, 0xffff},
	} {
		checkJoin(t, x.a, x.b, x.bytes, x.want)
	}
}

func TestJoinEdges(t *testing.T) {
	even := []int{0, 2, 4, -2, -4, 1 << 32, math.MaxInt - 1, math.MinInt}
	odd := []int{1, 3, 5, -1, -3, 1<<32 + 1, math.MaxInt, math.MinInt + 1}
	for _, a := range edges {
		for _, b := range edges {
			for _, n := range even {
				checkJoin(t, a, b, n, folded(uint64(a)+uint64(b)))
			}
			for _, n := range odd {
				checkJoin(t, a, b, n, folded(uint64(a)+uint64(b%256)*256+uint64(b/256)))
			}
		}
	}
}

// P2.3

func TestOrderOfWords(t *testing.T) {
	for _, s := range samples() {
		if len(s)%2 != 0 {
			continue
		}
		var l []string
		for i := 0; i < len(s); i += 2 {
			l = append(l, s[i:i+2])
		}
		for _, sum := range edges {
			want := csum.On(sum, s)
			slices.Reverse(l)
			checkOn(t, sum, strings.Join(l, ""), want)
			slices.Sort(l)
			checkOn(t, sum, strings.Join(l, ""), want)
		}
	}
}

func TestOnInTwoParts(t *testing.T) {
	for _, a := range samples() {
		if len(a)%2 != 0 {
			continue
		}
		for _, b := range samples() {
			for _, sum := range []uint16{0, 1, 0xfffe, 0xffff} {
				checkOn(t, csum.On(sum, a), b, csum.On(sum, a+b))
			}
		}
	}
}

func TestJoinOfSums(t *testing.T) {
	for _, a := range samples() {
		for _, b := range samples() {
			checkJoin(t, csum.On(0, a), csum.On(0, b), len(a), csum.On(0, a+b))
		}
	}
	s := scattered(4099, 3)
	for i := range len(s) + 1 {
		checkJoin(t, csum.On(0, s[:i]), csum.On(0, s[i:]), i, csum.On(0, s))
	}
}

func TestSumMakesRight(t *testing.T) {
	for _, s := range samples() {
		if len(s)%2 != 0 {
			continue
		}
		sum := csum.Sum(s)
		checkRight(t, s+bytesOf(sum), true)
		// One flipped bit never exchanges 0 and 65535, so it is always seen.
		checkRight(t, s+bytesOf(sum^1), false)
		checkRight(t, s+bytesOf(sum^0x8000), false)
	}
}

// P2.4

func TestUpdateOfReplacedWord(t *testing.T) {
	for _, s := range samples() {
		sum := csum.Sum(s)
		for at := 0; at+2 <= len(s); at += 2 + len(s)/40*2 {
			old := uint16(s[at])<<8 | uint16(s[at+1])
			for _, now := range edges {
				u := s[:at] + bytesOf(now) + s[at+2:]
				want, got := csum.Sum(u), csum.Update(sum, old, now)
				if got%65535 != want%65535 {
					t.Errorf("Update(%#x, %#x, %#x) = %#x; Sum(%s) = %#x", sum, old, now, got, short(u), want)
				}
				if back := csum.Update(got, now, old); back%65535 != sum%65535 {
					t.Errorf("Update(%#x, %#x, %#x) = %#x; Sum(%s) = %#x", got, now, old, back, short(s), sum)
				}
			}
		}
	}
}

// Where Update and Sum differ, one of them is 0 and the other one 65535.
func TestUpdateOfZeroes(t *testing.T) {
	checkSum(t, "\x00\x00", 65535)
	checkUpdate(t, csum.Sum("\x00\x01"), 1, 0, 0)
	checkUpdate(t, csum.Sum("\x00\x00"), 0, 0, 0)
	checkUpdate(t, csum.Sum("\xff\xff"), 0xffff, 0, 0)
	checkSum(t, "\xff\xff", 0)
	checkUpdate(t, csum.Sum("\x00\x00"), 0, 0xffff, 0)
}
