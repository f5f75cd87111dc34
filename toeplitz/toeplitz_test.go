package toeplitz_test

import (
	"encoding/hex"
	"fmt"
	"math"
	"net/netip"
	"strings"
	"testing"

	"aqueduct/api"
	"aqueduct/toeplitz"
)

// exampleKey is the key of the chapter's examples, in hexadecimal.
const exampleKey = "6d5a56da255b0ec24167253d43a38fb0d0ca2bcbae7b30b477cb2da38030f20c6a42b73bbeac01fa"

func unhex(t *testing.T, text string) string {
	t.Helper()
	b, err := hex.DecodeString(text)
	if err != nil {
		t.Fatal(err)
	}
	return string(b)
}

// scattered has n bytes without a pattern that windows could have in common.
func scattered(n int, seed uint32) string {
	b := make([]byte, n)
	for i := range b {
		seed = seed*1664525 + 1013904223
		b[i] = byte(seed >> 24)
	}
	return string(b)
}

// digits writes the bits of s as the digits 0 and 1, bit 0 first.
func digits(s string) string {
	var b strings.Builder
	for i := 0; i < len(s); i++ {
		fmt.Fprintf(&b, "%08b", s[i])
	}
	return b.String()
}

// cutWindow is the window at a bit, cut out of a key's digits: the bits
// outside of the key are 0.
func cutWindow(key string, bit int) uint32 {
	d := digits(key)
	var v uint32
	for i := range 32 {
		v *= 2
		if bit > math.MaxInt-i {
			continue
		}
		if at := bit + i; at >= 0 && at < len(d) && d[at] == '1' {
			v++
		}
	}
	return v
}

// cutHash is the hash by the windows that are cut out of digits.
func cutHash(key, s string) uint32 {
	var h uint32
	for i, c := range digits(s) {
		if c == '1' {
			h ^= cutWindow(key, i)
		}
	}
	return h
}

// alone has n bytes in which this bit alone is 1.
func alone(n, bit int) string {
	b := make([]byte, n)
	b[bit/8] = byte(128 >> (bit % 8))
	return string(b)
}

// xor is the exclusive or of two byte strings of the same length.
func xor(a, b string) string {
	c := make([]byte, len(a))
	for i := range c {
		c[i] = a[i] ^ b[i]
	}
	return string(c)
}

// hashKeys are keys that Hash takes.
func hashKeys(t *testing.T) []string {
	return []string{
		unhex(t, exampleKey),
		scattered(4, 1), scattered(5, 2), scattered(7, 3), scattered(16, 4), scattered(51, 5), scattered(52, 6),
		"\x80\x00\x00\x01", "\x00\x00\x00\x00", "\xff\xff\xff\xff",
		strings.Repeat("\xff", 52), strings.Repeat("\x00", 51) + "\x01", "\x80" + strings.Repeat("\x00", 51),
	}
}

// short is s as a message shows it.
func short(s string) string {
	if len(s) <= 56 {
		return fmt.Sprintf("%x", s)
	}
	return fmt.Sprintf("%x.. of %d bytes", s[:16], len(s))
}

func checkWindow(t *testing.T, key string, bit int, want uint32) {
	t.Helper()
	if w := toeplitz.Window(key, bit); w != want {
		t.Errorf("Window(%s, %d) = %#x; want %#x", short(key), bit, w, want)
	}
}

func checkHash(t *testing.T, key, s string, want uint32) {
	t.Helper()
	if h, e := toeplitz.Hash(key, s); h != want || e != api.OK {
		t.Errorf("Hash(%s, %s) = %#x, %v; want %#x, %v", short(key), short(s), h, e, want, api.OK)
	}
}

func checkWrongKey(t *testing.T, key, s string) {
	t.Helper()
	if h, e := toeplitz.Hash(key, s); h != 0 || e != api.ErrHashKey {
		t.Errorf("Hash(%s, %s) = %#x, %v; want 0, %v", short(key), short(s), h, e, api.ErrHashKey)
	}
}

func hashOf(t *testing.T, key, s string) uint32 {
	t.Helper()
	h, e := toeplitz.Hash(key, s)
	if e != api.OK {
		t.Fatalf("Hash(%s, %s): %v", short(key), short(s), e)
	}
	return h
}

// P3.1

func TestWindowValues(t *testing.T) {
	key := unhex(t, exampleKey)
	for _, x := range []struct {
		bit  int
		want uint32
	}{
		{0, 0x6d5a56da},
		{1, 0xdab4adb4},
		{4, 0xd5a56da2},
		{7, 0xad2b6d12},
		{8, 0x5a56da25},
		{16, 0x56da255b},
		{280, 0x3bbeac01},
		{287, 0xdf5600fd},
		{288, 0xbeac01fa}, // the last window within the key
	} {
		checkWindow(t, key, x.bit, x.want)
	}
}

func TestWindowBeforeBeginning(t *testing.T) {
	key := unhex(t, exampleKey)
	checkWindow(t, key, -1, 0x36ad2b6d)
	checkWindow(t, key, -4, 0x06d5a56d)
	checkWindow(t, key, -7, 0x00dab4ad)
	checkWindow(t, key, -8, 0x006d5a56)
	checkWindow(t, key, -9, 0x0036ad2b)
	checkWindow(t, key, -30, 1)
	checkWindow(t, key, -31, 0) // the key's first bit is 0
	checkWindow(t, key, -32, 0)
	checkWindow(t, "\x80", 0, 0x80000000)
	checkWindow(t, "\x80", -1, 0x40000000)
	checkWindow(t, "\x80", -31, 1)
	checkWindow(t, "\x80", -32, 0)
	checkWindow(t, "\xff\xff\xff\xff\xff", -31, 1)
	checkWindow(t, "\xff\xff\xff\xff\xff", -32, 0)
}

func TestWindowAfterEnd(t *testing.T) {
	key := unhex(t, exampleKey)
	checkWindow(t, key, 289, 0x7d5803f4)
	checkWindow(t, key, 296, 0xac01fa00)
	checkWindow(t, key, 312, 0xfa000000)
	checkWindow(t, key, 318, 0x80000000)
	checkWindow(t, key, 319, 0) // the key's last bit is 0
	checkWindow(t, key, 320, 0)
	checkWindow(t, "\x00\x00\x00\x01", 0, 1)
	checkWindow(t, "\x00\x00\x00\x01", 1, 2)
	checkWindow(t, "\x00\x00\x00\x01", 31, 0x80000000)
	checkWindow(t, "\x00\x00\x00\x01", 32, 0)
	checkWindow(t, "\xff\xff\xff\xff\xff", 39, 0x80000000)
	checkWindow(t, "\xff\xff\xff\xff\xff", 40, 0)
}

// A key shorter than a window may have bits 0 at both sides of it.
func TestWindowOfShortKey(t *testing.T) {
	checkWindow(t, "\xff", 0, 0xff000000)
	checkWindow(t, "\xff", -8, 0x00ff0000)
	checkWindow(t, "\xff", -11, 0x001fe000)
	checkWindow(t, "\xff", -24, 0x000000ff)
	checkWindow(t, "\xab\xcd", -3, 0x1579a000)
	checkWindow(t, "\xab\xcd", 3, 0x5e680000)
}

// farBits are numbers of bits that lie outside of every key of a test, and
// near which a narrower integer or a sum would wrap round into it.
func farBits() []int {
	l := []int{math.MinInt, math.MinInt + 1, math.MinInt + 7, math.MinInt + 8, math.MinInt + 31, math.MinInt + 32, math.MaxInt, math.MaxInt - 1, math.MaxInt - 7, math.MaxInt - 8, math.MaxInt - 31, math.MaxInt - 32}
	for _, k := range []int{16, 31, 32, 33, 34, 35, 36, 60, 61, 62} {
		for _, d := range []int{-33, -32, -31, -8, -1, 0, 1, 4, 8, 40} {
			l = append(l, 1<<k+d, -1<<k-d)
		}
	}
	return l
}

func TestWindowFarOutside(t *testing.T) {
	for _, key := range []string{"", "\xff", strings.Repeat("\xff", 4), strings.Repeat("\xff", 52), strings.Repeat("\xff", 53)} {
		for _, bit := range farBits() {
			checkWindow(t, key, bit, 0)
		}
	}
}

func TestWindowOfEmptyKey(t *testing.T) {
	for bit := -100; bit <= 100; bit++ {
		checkWindow(t, "", bit, 0)
	}
}

// Keys of every length have windows, also those that Hash does not take.
func TestWindowEverywhere(t *testing.T) {
	for _, n := range []int{1, 2, 3, 4, 5, 8, 39, 40, 51, 52, 53, 100} {
		for _, key := range []string{scattered(n, uint32(n)), strings.Repeat("\xff", n), strings.Repeat("\x00", n), alone(n, 0), alone(n, 8*n-1)} {
			for bit := -70; bit <= 8*n+70; bit++ {
				checkWindow(t, key, bit, cutWindow(key, bit))
			}
		}
	}
	long := strings.Repeat("\x00", 1<<20) + "\x12\x34\x56\x78"
	checkWindow(t, long, 0, 0)
	checkWindow(t, long, 8<<20, 0x12345678)
	checkWindow(t, long, 8<<20-16, 0x1234)
	checkWindow(t, long, 8<<20+16, 0x56780000)
}

// P3.2

func TestHashExamples(t *testing.T) {
	key := unhex(t, exampleKey)
	addresses := string([]byte{66, 9, 149, 187, 161, 142, 100, 80})
	checkHash(t, key, addresses, 0x323e8fc2)
	checkHash(t, key, addresses+string([]byte{2794 >> 8, 2794 & 255, 1766 >> 8, 1766 & 255}), 0x51ccc178)
}

// The values that are published with the chapter's key, of both versions of IP.
func TestHashPublished(t *testing.T) {
	key := unhex(t, exampleKey)
	for _, x := range []struct {
		src, dst     string
		sport, dport int
		bare, ports  uint32
	}{
		{"66.9.149.187", "161.142.100.80", 2794, 1766, 0x323e8fc2, 0x51ccc178},
		{"199.92.111.2", "65.69.140.83", 14230, 4739, 0xd718262a, 0xc626b0ea},
		{"24.19.198.95", "12.22.207.184", 12898, 38024, 0xd2d0a5de, 0x5c2b394a},
		{"38.27.205.30", "209.142.163.6", 48228, 2217, 0x82989176, 0xafc7327f},
		{"153.39.163.191", "202.188.127.2", 44251, 1303, 0x5d1809c5, 0x10e828a2},
		{"3ffe:2501:200:1fff::7", "3ffe:2501:200:3::1", 2794, 1766, 0x2cc18cd5, 0x40207d3d},
		{"3ffe:501:8::260:97ff:fe40:efab", "ff02::1", 14230, 4739, 0x0f0c461c, 0xdde51bbf},
		{"3ffe:1900:4545:3:200:f8ff:fe21:67cf", "fe80::200:f8ff:fe21:67cf", 44251, 38024, 0x4b61e985, 0x02d1feef},
	} {
		s := string(netip.MustParseAddr(x.src).AsSlice()) + string(netip.MustParseAddr(x.dst).AsSlice())
		checkHash(t, key, s, x.bare)
		s += string([]byte{byte(x.sport >> 8), byte(x.sport), byte(x.dport >> 8), byte(x.dport)})
		checkHash(t, key, s, x.ports)
	}
}

func TestHashKeyLength(t *testing.T) {
	for n := range 70 {
		for _, key := range []string{scattered(n, 9), strings.Repeat("\x00", n), strings.Repeat("\xff", n)} {
			for _, s := range []string{"", "\x00", "ab", strings.Repeat("\xff", 100)} {
				if n < 4 || n > 52 {
					checkWrongKey(t, key, s)
				} else {
					checkHash(t, key, s, cutHash(key, s))
				}
			}
		}
	}
	for _, n := range []int{256, 260, 65536 + 4, 1 << 20} {
		checkWrongKey(t, strings.Repeat("k", n), "ab")
	}
}

// The least and the greatest key, to the last of their bits.
func TestHashAtKeyEnds(t *testing.T) {
	least := "\x12\x34\x56\x79"
	checkHash(t, least, "\x80", 0x12345679)
	checkHash(t, least, "\x00\x80", 0x34567900)
	checkHash(t, least, "\x00\x00\x00\x01", 0x80000000)
	checkHash(t, least, "\x00\x00\x00\x00\x80", 0)
	greatest := strings.Repeat("\x00", 48) + least
	checkHash(t, greatest, strings.Repeat("\xff", 44)+"\xfe", cutHash(greatest, strings.Repeat("\xff", 44)+"\xfe"))
	checkHash(t, greatest, alone(49, 8*48), 0x12345679)
	checkHash(t, greatest, alone(52, 8*52-1), 0x80000000)
	checkHash(t, greatest, alone(53, 8*52), 0)
}

// A bit alone, at each place of each byte, has the window at it.
func TestHashOneBit(t *testing.T) {
	key := unhex(t, exampleKey)
	for i, want := range []uint32{0x6d5a56da, 0xdab4adb4, 0xb5695b68, 0x6ad2b6d1, 0xd5a56da2, 0xab4adb44, 0x5695b689, 0xad2b6d12} {
		checkHash(t, key, string([]byte{byte(128 >> i)}), want)
	}
	for _, key := range hashKeys(t) {
		n := len(key) + 6
		for bit := range 8 * n {
			checkHash(t, key, alone(n, bit), cutWindow(key, bit))
			checkHash(t, key, alone(n, bit), toeplitz.Window(key, bit))
		}
	}
}

func TestHashSomeBits(t *testing.T) {
	key := unhex(t, exampleKey)
	checkHash(t, key, "\xc0", 0x6d5a56da^0xdab4adb4)
	checkHash(t, key, "\x81", 0x6d5a56da^0xad2b6d12)
	checkHash(t, key, "\x80\x80", 0x6d5a56da^0x5a56da25)
	for _, key := range hashKeys(t) {
		for b := range 256 {
			checkHash(t, key, string([]byte{byte(b)}), cutHash(key, string([]byte{byte(b)})))
		}
		for n := range 60 {
			checkHash(t, key, scattered(n, 11), cutHash(key, scattered(n, 11)))
			checkHash(t, key, strings.Repeat("\xff", n), cutHash(key, strings.Repeat("\xff", n)))
		}
	}
}

// Bits after the key's end have windows of 0, however many they are.
func TestHashBeyondKey(t *testing.T) {
	for _, key := range hashKeys(t) {
		s := scattered(len(key), 12)
		want := cutHash(key, s)
		for _, n := range []int{0, 1, 2, 3, 4, 5, 100, 1 << 20, 1 << 24} {
			checkHash(t, key, s+strings.Repeat("\xff", n), want)
		}
		checkHash(t, key, strings.Repeat("\x00", len(key))+"\xff\xff\xff\xff\xff", 0)
		checkHash(t, key, s[:len(s)-1]+"\xff\xff", cutHash(key, s[:len(s)-1]+"\xff"))
	}
}

// P3.3

func TestHashOfZeroBytes(t *testing.T) {
	for _, key := range hashKeys(t) {
		for _, n := range []int{0, 1, 2, 4, 8, 12, 36, 52, 53, 1000} {
			checkHash(t, key, strings.Repeat("\x00", n), 0)
		}
	}
}

func TestHashOfExclusiveOr(t *testing.T) {
	for _, key := range hashKeys(t) {
		for _, n := range []int{0, 1, 2, 3, 4, 8, 12, 32, 36, 40, 52, 53, 100} {
			l := []string{strings.Repeat("\x00", n), strings.Repeat("\xff", n), strings.Repeat("\xa5", n), scattered(n, 21), scattered(n, 22), scattered(n, 23)}
			for _, a := range l {
				for _, b := range l {
					checkHash(t, key, xor(a, b), hashOf(t, key, a)^hashOf(t, key, b))
				}
			}
		}
	}
}

// R5: earlier calls, with other keys or with an error, make no difference.
func TestHashAgain(t *testing.T) {
	key := unhex(t, exampleKey)
	for range 3 {
		checkHash(t, key, "\x42\x09\x95\xbb\xa1\x8e\x64\x50", 0x323e8fc2)
		checkWrongKey(t, "abc", "\xff")
		checkHash(t, "abcd", "\x80", 0x61626364)
		checkWindow(t, key, 0, 0x6d5a56da)
	}
}
