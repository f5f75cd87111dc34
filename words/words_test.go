package words_test

import (
	"math"
	"math/big"
	"slices"
	"strings"
	"testing"

	"aqueduct/api"
	"aqueduct/words"
)

// allBytes has bytes of which no two are equal, with and without a high bit.
const allBytes = "\x00\x81\x02\xf3\x7f\x80\xff\x01\x10\xfe\x55\xaa"

// badSizes are the sizes that no number has.
var badSizes = []int{0, 9, -1, -8, 10, 16, 64, 1 << 32, math.MaxInt, math.MinInt}

// encoding is what Put is held against: big.Int's own encoding.
func encoding(v uint64, n int, bigEndian bool) string {
	b := new(big.Int).SetUint64(v).FillBytes(make([]byte, n))
	if !bigEndian {
		slices.Reverse(b)
	}
	return string(b)
}

// decoding is what Get is held against: big.Int's own decoding.
func decoding(s string, bigEndian bool) uint64 {
	b := []byte(s)
	if !bigEndian {
		slices.Reverse(b)
	}
	return new(big.Int).SetBytes(b).Uint64()
}

// limit is 2^(8 n) - 1, the greatest number of n bytes.
func limit(n int) uint64 {
	b := new(big.Int).Lsh(big.NewInt(1), uint(8*n))
	return b.Sub(b, big.NewInt(1)).Uint64()
}

// numbers are some that fit into n bytes, the least and the greatest among them.
func numbers(n int) []uint64 {
	l := []uint64{0, 1, 2, 0x7f, 0x80, 0xff, limit(n) / 2, limit(n)/2 + 1, limit(n) - 1, limit(n), 0x0123456789abcdef & limit(n), 0xfedcba9876543210 & limit(n)}
	for i := 1; i < n; i++ {
		l = append(l, 1<<(8*i)-1, 1<<(8*i), 0xa5<<(8*i))
	}
	return l
}

func checkGet(t *testing.T, s string, at, n int, big bool, want uint64, wantErr api.Errno) {
	t.Helper()
	if v, e := words.Get(s, at, n, big); v != want || e != wantErr {
		t.Errorf("Get(%q, %d, %d, %v) = %#x, %d; want %#x, %d", s, at, n, big, v, e, want, wantErr)
	}
}

func checkPut(t *testing.T, v uint64, n int, big bool, want string, wantErr api.Errno) {
	t.Helper()
	if s, e := words.Put(v, n, big); s != want || e != wantErr {
		t.Errorf("Put(%#x, %d, %v) = %q, %d; want %q, %d", v, n, big, s, e, want, wantErr)
	}
}

func checkSet(t *testing.T, s string, at int, v uint64, n int, big bool, want string, wantErr api.Errno) {
	t.Helper()
	if u, e := words.Set(s, at, v, n, big); u != want || e != wantErr {
		t.Errorf("Set(%q, %d, %#x, %d, %v) = %q, %d; want %q, %d", s, at, v, n, big, u, e, want, wantErr)
	}
}

// badOffsets are the offsets from which s does not have n bytes (n from 1 to 8).
func badOffsets(s string, n int) []int {
	l := []int{-1, -2, -n, -len(s) - 1, math.MinInt, math.MinInt + n, len(s), len(s) + 1, len(s) + n, 1 << 32, math.MaxInt - n, math.MaxInt - n + 1, math.MaxInt - 1, math.MaxInt}
	if len(s)-n+1 >= 0 {
		l = append(l, len(s)-n+1)
	}
	return l
}

// P1.1

func TestGetExamples(t *testing.T) {
	checkGet(t, "abc", 1, 2, true, 0x6263, api.OK)
	checkGet(t, "abc", 1, 2, false, 0x6362, api.OK)
	checkGet(t, "\x12\x34", 0, 2, true, 0x1234, api.OK)
	checkGet(t, "\x34\x12", 0, 2, false, 0x1234, api.OK)
	checkGet(t, "\x01\x02\x03\x04\x05\x06\x07\x08", 0, 8, true, 0x0102030405060708, api.OK)
	checkGet(t, "\x01\x02\x03\x04\x05\x06\x07\x08", 0, 8, false, 0x0807060504030201, api.OK)
	checkGet(t, "\xff\xff\xff\xff\xff\xff\xff\xff", 0, 8, true, math.MaxUint64, api.OK)
	checkGet(t, "\x80\x00\x00\x00\x00\x00\x00\x00", 0, 8, true, 1<<63, api.OK)
}

func TestGetEverywhere(t *testing.T) {
	for n := 1; n <= 8; n++ {
		for at := 0; at+n <= len(allBytes); at++ {
			for _, big := range []bool{true, false} {
				checkGet(t, allBytes, at, n, big, decoding(allBytes[at:at+n], big), api.OK)
			}
		}
	}
}

func TestGetWholeString(t *testing.T) {
	for n := 1; n <= 8; n++ {
		s := allBytes[1 : 1+n]
		checkGet(t, s, 0, n, true, decoding(s, true), api.OK)
		checkGet(t, s[1:], 0, n, true, 0, api.ErrWordsAt)
	}
}

func TestGetBadSize(t *testing.T) {
	for _, n := range badSizes {
		for _, s := range []string{"", "a", allBytes} {
			// A bad size comes ahead of a bad offset.
			for _, at := range []int{0, 1, -1, len(s), len(s) + 1, math.MaxInt, math.MinInt} {
				checkGet(t, s, at, n, true, 0, api.ErrArg)
				checkGet(t, s, at, n, false, 0, api.ErrArg)
			}
		}
	}
}

func TestGetBadOffset(t *testing.T) {
	for n := 1; n <= 8; n++ {
		for _, s := range []string{"", "a", "abc", "abcdefgh", allBytes} {
			for _, at := range badOffsets(s, n) {
				checkGet(t, s, at, n, true, 0, api.ErrWordsAt)
				checkGet(t, s, at, n, false, 0, api.ErrWordsAt)
			}
		}
		checkGet(t, "", 0, n, true, 0, api.ErrWordsAt)
	}
}

// P1.2

func TestPutExamples(t *testing.T) {
	checkPut(t, 0x1234, 2, true, "\x12\x34", api.OK)
	checkPut(t, 0x1234, 2, false, "\x34\x12", api.OK)
	checkPut(t, 256, 1, true, "", api.ErrArg)
	checkPut(t, 5, 4, true, "\x00\x00\x00\x05", api.OK)
	checkPut(t, 5, 4, false, "\x05\x00\x00\x00", api.OK)
	checkPut(t, 0x0102030405060708, 8, true, "\x01\x02\x03\x04\x05\x06\x07\x08", api.OK)
	checkPut(t, 0x0102030405060708, 8, false, "\x08\x07\x06\x05\x04\x03\x02\x01", api.OK)
}

func TestPutNumbers(t *testing.T) {
	for n := 1; n <= 8; n++ {
		for _, v := range numbers(n) {
			checkPut(t, v, n, true, encoding(v, n, true), api.OK)
			checkPut(t, v, n, false, encoding(v, n, false), api.OK)
		}
	}
}

func TestPutGreatest(t *testing.T) {
	for n := 1; n <= 8; n++ {
		all := strings.Repeat("\xff", n)
		checkPut(t, limit(n), n, true, all, api.OK)
		checkPut(t, limit(n), n, false, all, api.OK)
	}
}

func TestPutTooGreat(t *testing.T) {
	for n := 1; n <= 7; n++ {
		for _, v := range []uint64{limit(n) + 1, limit(n) + 2, 2*limit(n) + 1, 1 << 63, math.MaxUint64} {
			checkPut(t, v, n, true, "", api.ErrArg)
			checkPut(t, v, n, false, "", api.ErrArg)
		}
	}
}

func TestPutBadSize(t *testing.T) {
	for _, n := range badSizes {
		for _, v := range []uint64{0, 1, 255, 256, math.MaxUint64} {
			checkPut(t, v, n, true, "", api.ErrArg)
			checkPut(t, v, n, false, "", api.ErrArg)
		}
	}
}

func TestSetExamples(t *testing.T) {
	checkSet(t, "abcde", 1, 0x1234, 2, true, "a\x12\x34de", api.OK)
	checkSet(t, "abcde", 1, 0x1234, 2, false, "a\x34\x12de", api.OK)
	checkSet(t, "abc", 0, 0x7a, 1, true, "zbc", api.OK)
	checkSet(t, "abc", 2, 0x7a, 1, true, "abz", api.OK)
	checkSet(t, "a", 0, 0x7a, 1, false, "z", api.OK)
	checkSet(t, "abcdefgh", 0, math.MaxUint64, 8, true, "\xff\xff\xff\xff\xff\xff\xff\xff", api.OK)
}

func TestSetBadSize(t *testing.T) {
	for _, n := range badSizes {
		for _, at := range []int{0, -1, len(allBytes), math.MaxInt, math.MinInt} {
			checkSet(t, allBytes, at, 1, n, true, "", api.ErrArg)
			checkSet(t, "", at, 0, n, false, "", api.ErrArg)
		}
	}
}

// The errors of Put come ahead of those of the offset.
func TestSetTooGreat(t *testing.T) {
	for n := 1; n <= 7; n++ {
		for _, at := range []int{0, 3, -1, len(allBytes), math.MaxInt, math.MinInt} {
			checkSet(t, allBytes, at, limit(n)+1, n, true, "", api.ErrArg)
			checkSet(t, "", at, limit(n)+1, n, false, "", api.ErrArg)
		}
		checkSet(t, allBytes, 0, limit(n), n, true, strings.Repeat("\xff", n)+allBytes[n:], api.OK)
	}
}

func TestSetBadOffset(t *testing.T) {
	for n := 1; n <= 8; n++ {
		for _, s := range []string{"", "a", "abc", "abcdefgh", allBytes} {
			for _, at := range badOffsets(s, n) {
				checkSet(t, s, at, 0, n, true, "", api.ErrWordsAt)
				checkSet(t, s, at, limit(n), n, false, "", api.ErrWordsAt)
			}
		}
		checkSet(t, "", 0, 1, n, true, "", api.ErrWordsAt)
	}
}

// P1.3

func TestTurn(t *testing.T) {
	for _, x := range []struct{ s, want string }{
		{"", ""},
		{"a", "a"},
		{"ab", "ba"},
		{"abc", "cba"},
		{"abcd", "dcba"},
		{"\x00\xff\x80", "\x80\xff\x00"},
		{"a\u00e9", "\xa9\xc3a"}, // bytes, not runes
		{"\u20ac", "\xac\x82\xe2"},
	} {
		if got := words.Turn(x.s); got != x.want {
			t.Errorf("Turn(%q) = %q; want %q", x.s, got, x.want)
		}
	}
}

func TestTurnLong(t *testing.T) {
	b := make([]byte, 100001)
	for i := range b {
		b[i] = byte(i*i>>3 + i)
	}
	s := string(b)
	slices.Reverse(b)
	if words.Turn(s) != string(b) {
		t.Error("a long string is not reversed")
	}
	if words.Turn(words.Turn(s)) != s {
		t.Error("a long string reversed twice is not the same")
	}
}

// P1.4

func TestGetReturnsWhatWasPut(t *testing.T) {
	for n := 1; n <= 8; n++ {
		for _, v := range numbers(n) {
			for _, big := range []bool{true, false} {
				s, _ := words.Put(v, n, big)
				checkGet(t, s, 0, n, big, v, api.OK)
				checkGet(t, "xyz"+s+"w", 3, n, big, v, api.OK)
			}
		}
	}
}

func TestOrdersAreReversed(t *testing.T) {
	for n := 1; n <= 8; n++ {
		for _, v := range numbers(n) {
			high, _ := words.Put(v, n, true)
			low, _ := words.Put(v, n, false)
			if len(high) != n || high != words.Turn(low) {
				t.Errorf("Put(%#x, %d): %q is not %q reversed", v, n, high, low)
			}
		}
	}
}

func TestSetChangesItsBytesAlone(t *testing.T) {
	for n := 1; n <= 8; n++ {
		for at := 0; at+n <= len(allBytes); at++ {
			for _, v := range numbers(n) {
				for _, big := range []bool{true, false} {
					want := allBytes[:at] + encoding(v, n, big) + allBytes[at+n:]
					checkSet(t, allBytes, at, v, n, big, want, api.OK)
				}
			}
		}
	}
}

func TestGetReturnsWhatWasSet(t *testing.T) {
	for n := 1; n <= 8; n++ {
		for at := 0; at+n <= len(allBytes); at++ {
			for _, big := range []bool{true, false} {
				s, _ := words.Set(allBytes, at, limit(n)-1, n, big)
				checkGet(t, s, at, n, big, limit(n)-1, api.OK)
				old, _ := words.Get(allBytes, at, n, big)
				checkSet(t, s, at, old, n, big, allBytes, api.OK)
			}
		}
	}
}
