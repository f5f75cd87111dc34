package gmem_test

import (
	"encoding/binary"
	"fmt"
	"math"
	"math/big"
	"slices"
	"strings"
	"testing"

	"aqueduct/api"
	"aqueduct/gmem"
)

// maxLog is how many accesses Log returns at most.
const maxLog = 4096

// wordSizes are the numbers of bytes that Load and Store take; otherSizes are
// some that they do not.
var (
	wordSizes  = []int{1, 2, 4, 8}
	otherSizes = []int{0, 3, 5, 6, 7, 9, 10, 16, 64, -1, -2, -8, 1 << 32, 1<<32 + 1, math.MaxInt, math.MinInt, math.MinInt + 1, math.MinInt + 8}
)

// scattered has n bytes of which neighbours differ.
func scattered(n int, seed uint32) string {
	b := make([]byte, n)
	for i := range b {
		seed = seed*1664525 + 1013904223
		b[i] = byte(seed >> 24)
	}
	return string(b)
}

func newMemory(t *testing.T, size int) *gmem.Memory {
	t.Helper()
	m, e := gmem.New(size)
	if e != api.OK || m == nil {
		t.Fatalf("New(%d) = %v, %d", size, m, e)
	}
	return m
}

// filled is a memory of scattered bytes with an empty log.
func filled(t *testing.T, size int) (*gmem.Memory, string) {
	t.Helper()
	m, image := newMemory(t, size), scattered(size, uint32(size))
	checkWrite(t, m, 0, image, api.OK)
	m.Log()
	return m, image
}

// limit is 2^(8 n) - 1, the greatest number of n bytes.
func limit(n int) uint64 {
	b := new(big.Int).Lsh(big.NewInt(1), uint(8*n))
	return b.Sub(b, big.NewInt(1)).Uint64()
}

// encoding is the encoding of v in n bytes, the least significant one first.
func encoding(v uint64, n int) string {
	return string(binary.LittleEndian.AppendUint64(nil, v)[:n])
}

// decoding is the number that up to eight bytes encode.
func decoding(s string) uint64 {
	return binary.LittleEndian.Uint64([]byte(s + strings.Repeat("\x00", 8-len(s))))
}

// inside is what May is held against: no sum of big numbers overflows.
func inside(size, at, n int) bool {
	end := new(big.Int).Add(big.NewInt(int64(at)), big.NewInt(int64(n)))
	return at >= 0 && n >= 0 && end.Cmp(big.NewInt(int64(size))) <= 0
}

// offsets are some inside and outside of a memory, the smallest and the
// greatest numbers and those whose sum with a few bytes overflows among them.
func offsets(size int) []int {
	l := []int{0, 1, 2, 7, 8, size / 2, -1, -2, -8, -size, -size - 1, 1 << 20, 1<<20 + 1, 1 << 31, 1 << 32, -1 << 31, -1 << 32, 1<<32 + 8}
	for d := range 11 {
		l = append(l, size-d, size+d, math.MaxInt-d, math.MinInt+d)
	}
	return append(l, math.MaxInt-size, math.MaxInt-size+1, math.MinInt+size)
}

func short(s string) string {
	if len(s) <= 24 {
		return fmt.Sprintf("%x", s)
	}
	return fmt.Sprintf("%x.. of %d bytes", s[:24], len(s))
}

func checkRead(t *testing.T, m *gmem.Memory, at, n int, want string, wantErr api.Errno) {
	t.Helper()
	if s, e := m.Read(at, n); s != want || e != wantErr {
		t.Errorf("Read(%d, %d) = %s, %d; want %s, %d", at, n, short(s), e, short(want), wantErr)
	}
}

func checkWrite(t *testing.T, m *gmem.Memory, at int, s string, want api.Errno) {
	t.Helper()
	if e := m.Write(at, s); e != want {
		t.Errorf("Write(%d, %s) = %d; want %d", at, short(s), e, want)
	}
}

func checkLoad(t *testing.T, m *gmem.Memory, at, n int, want uint64, wantErr api.Errno) {
	t.Helper()
	if v, e := m.Load(at, n); v != want || e != wantErr {
		t.Errorf("Load(%d, %d) = %#x, %d; want %#x, %d", at, n, v, e, want, wantErr)
	}
}

func checkStore(t *testing.T, m *gmem.Memory, at, n int, v uint64, want api.Errno) {
	t.Helper()
	if e := m.Store(at, n, v); e != want {
		t.Errorf("Store(%d, %d, %#x) = %d; want %d", at, n, v, e, want)
	}
}

func checkMay(t *testing.T, m *gmem.Memory, at, n int, want bool) {
	t.Helper()
	if may := m.May(at, n); may != want {
		t.Errorf("May(%d, %d) = %v of %d bytes; want %v", at, n, may, m.Size(), want)
	}
}

func checkImage(t *testing.T, m *gmem.Memory, want string) {
	t.Helper()
	image := m.Image()
	if len(image) != len(want) {
		t.Errorf("an image of %d bytes; want %d", len(image), len(want))
		return
	}
	for i := range len(want) {
		if image[i] != want[i] {
			t.Errorf("byte %d of the image is %#x; want %#x", i, image[i], want[i])
			return
		}
	}
}

func checkAccesses(t *testing.T, got, want []api.Access) {
	t.Helper()
	if len(got) != len(want) {
		t.Errorf("%d accesses; want %d", len(got), len(want))
		return
	}
	for i := range want {
		if got[i] != want[i] {
			t.Errorf("access %d is %+v; want %+v", i, got[i], want[i])
			return
		}
	}
}

func checkLog(t *testing.T, m *gmem.Memory, want ...api.Access) {
	t.Helper()
	checkAccesses(t, m.Log(), want)
}

// checkIdle tells whether a memory still has these bytes and no access.
func checkIdle(t *testing.T, m *gmem.Memory, image string) {
	t.Helper()
	checkImage(t, m, image)
	checkLog(t, m)
}

// P4.1

func TestNewSizes(t *testing.T) {
	for _, size := range []int{64, 65, 100, 127, 4096, 1<<20 - 1, 1 << 20} {
		m := newMemory(t, size)
		if m.Size() != size {
			t.Errorf("Size() = %d of %d bytes", m.Size(), size)
		}
		checkIdle(t, m, strings.Repeat("\x00", size))
		checkRead(t, m, 0, size, strings.Repeat("\x00", size), api.OK)
	}
}

func TestNewWrongSizes(t *testing.T) {
	for _, size := range []int{63, 62, 32, 1, 0, -1, -63, -64, -100, -1 << 20, math.MinInt, math.MinInt + 64, 1<<20 + 1, 1<<20 + 64, 1 << 21, 1 << 31, 1 << 32, 1<<32 + 64, math.MaxInt} {
		if m, e := gmem.New(size); m != nil || e != api.ErrMemSize {
			t.Errorf("New(%d) = %v, %d; want nil, %d", size, m, e, api.ErrMemSize)
		}
	}
}

func TestNewAgent(t *testing.T) {
	m := newMemory(t, 64)
	checkWrite(t, m, 3, "ab", api.OK)
	checkLoad(t, m, 3, 1, 'a', api.OK)
	checkLog(t, m, api.Access{Agent: 0, At: 3, N: 2, Write: true}, api.Access{Agent: 0, At: 3, N: 1})
}

// Memories share nothing.
func TestNewTwice(t *testing.T) {
	a, b := newMemory(t, 64), newMemory(t, 64)
	a.As(5)
	checkWrite(t, a, 0, "abc", api.OK)
	checkIdle(t, b, strings.Repeat("\x00", 64))
	checkStore(t, b, 1, 1, 9, api.OK)
	checkLog(t, b, api.Access{At: 1, N: 1, Write: true})
	checkRead(t, a, 0, 4, "abc\x00", api.OK)
}

func TestSizeStays(t *testing.T) {
	m := newMemory(t, 77)
	m.Write(0, strings.Repeat("x", 77))
	m.Write(0, strings.Repeat("x", 78))
	m.Write(70, "abcdefgh")
	m.Log()
	if m.Size() != 77 || len(m.Image()) != 77 {
		t.Error(m.Size(), len(m.Image()))
	}
}

func TestMayExamples(t *testing.T) {
	m := newMemory(t, 100)
	for _, x := range []struct {
		at, n int
		want  bool
	}{
		{0, 0, true}, {0, 1, true}, {0, 100, true}, {0, 101, false},
		{1, 99, true}, {1, 100, false}, {99, 1, true}, {99, 2, false}, {50, 50, true}, {50, 51, false},
		{99, 0, true}, {100, 0, true}, {101, 0, false}, {100, 1, false}, {101, 1, false}, {1000, 0, false},
		{-1, 0, false}, {-1, 1, false}, {-1, 2, false}, {-1, 100, false}, {-1, 101, false}, {-100, 200, false},
		{0, -1, false}, {50, -1, false}, {100, -1, false}, {101, -1, false}, {101, -2, false}, {-1, -1, false}, {200, -100, false},
		{1, math.MaxInt, false}, {math.MaxInt, 1, false}, {math.MaxInt, 0, false}, {math.MaxInt, math.MaxInt, false}, {0, math.MaxInt, false},
		{math.MinInt, 0, false}, {0, math.MinInt, false}, {math.MinInt, math.MinInt, false},
		{math.MinInt, math.MaxInt, false}, {math.MaxInt, math.MinInt, false}, {-math.MaxInt, math.MaxInt, false}, {math.MaxInt, -math.MaxInt, false},
	} {
		checkMay(t, m, x.at, x.n, x.want)
	}
	checkIdle(t, m, strings.Repeat("\x00", 100))
}

func TestMayEverywhere(t *testing.T) {
	for _, size := range []int{64, 65, 1 << 20} {
		m := newMemory(t, size)
		numbers := offsets(size)
		for _, at := range numbers {
			for _, n := range numbers {
				checkMay(t, m, at, n, inside(size, at, n))
			}
		}
	}
	m := newMemory(t, 64)
	for at := -70; at <= 140; at++ {
		for n := -70; n <= 140; n++ {
			checkMay(t, m, at, n, inside(64, at, n))
		}
	}
}

// P4.2

func TestExamples(t *testing.T) {
	m := newMemory(t, 64)
	checkStore(t, m, 0, 2, 0x1234, api.OK)
	checkRead(t, m, 0, 2, "\x34\x12", api.OK)
	checkLoad(t, m, 63, 2, 0, api.ErrMemAt)
	checkLog(t, m, api.Access{At: 0, N: 2, Write: true}, api.Access{At: 0, N: 2})
}

func TestReadParts(t *testing.T) {
	m, image := filled(t, 70)
	for at := range 71 {
		for n := 0; at+n <= 70; n++ {
			checkRead(t, m, at, n, image[at:at+n], api.OK)
		}
	}
	checkImage(t, m, image)
}

func TestReadAnyNumbers(t *testing.T) {
	for _, size := range []int{64, 65, 100} {
		m, image := filled(t, size)
		numbers := offsets(size)
		for _, at := range numbers {
			for _, n := range numbers {
				switch {
				case n < 0: // ahead of the offset's error
					checkRead(t, m, at, n, "", api.ErrArg)
				case !inside(size, at, n):
					checkRead(t, m, at, n, "", api.ErrMemAt)
				default:
					checkRead(t, m, at, n, image[at:at+n], api.OK)
				}
			}
		}
		checkImage(t, m, image)
	}
}

func TestReadRefused(t *testing.T) {
	m, image := filled(t, 64)
	for _, at := range []int{0, 63, 64, 65, -1, math.MinInt, math.MaxInt} {
		for _, n := range []int{-1, -2, -64, math.MinInt, math.MinInt + 1} {
			checkRead(t, m, at, n, "", api.ErrArg)
		}
	}
	for _, n := range []int{0, 1, 64, math.MaxInt} {
		for _, at := range []int{65, -1, -64, math.MinInt, math.MaxInt} {
			checkRead(t, m, at, n, "", api.ErrMemAt)
		}
	}
	checkRead(t, m, 0, 65, "", api.ErrMemAt)
	checkRead(t, m, 63, 2, "", api.ErrMemAt)
	checkRead(t, m, 64, 1, "", api.ErrMemAt)
	checkIdle(t, m, image)
}

func TestWriteParts(t *testing.T) {
	m, image := filled(t, 64)
	for at := range 65 {
		for n := 0; at+n <= 64; n++ {
			s := scattered(n, uint32(1000*at+n))
			image = image[:at] + s + image[at+n:]
			checkWrite(t, m, at, s, api.OK)
			checkImage(t, m, image)
		}
	}
}

func TestWriteAnyBytes(t *testing.T) {
	m := newMemory(t, 300)
	var all []byte
	for i := range 256 {
		all = append(all, byte(i))
	}
	checkWrite(t, m, 20, string(all), api.OK)
	checkWrite(t, m, 290, "\u20ac\xff\x00", api.OK)
	checkImage(t, m, strings.Repeat("\x00", 20)+string(all)+strings.Repeat("\x00", 14)+"\xe2\x82\xac\xff\x00"+strings.Repeat("\x00", 5))
}

func TestWriteRefused(t *testing.T) {
	for _, size := range []int{64, 65, 100} {
		m, image := filled(t, size)
		for _, at := range offsets(size) {
			for _, n := range []int{0, 1, 2, 3, 4, 5, 8, 9, size - 1, size, size + 1, 2 * size} {
				if !inside(size, at, n) {
					checkWrite(t, m, at, strings.Repeat("\xee", n), api.ErrMemAt)
				}
			}
		}
		checkIdle(t, m, image)
	}
}

// The longest memory, at its ends and over all of it.
func TestLongestMemory(t *testing.T) {
	m, image := filled(t, 1<<20)
	checkImage(t, m, image)
	checkRead(t, m, 0, 1<<20, image, api.OK)
	checkRead(t, m, 1, 1<<20, "", api.ErrMemAt)
	checkStore(t, m, 1<<20-8, 8, 0x1122334455667788, api.OK)
	checkStore(t, m, 1<<20-7, 8, 1, api.ErrMemAt)
	checkLoad(t, m, 1<<20-1, 1, 0x11, api.OK)
	checkLoad(t, m, 1<<20-1, 2, 0, api.ErrMemAt)
	checkWrite(t, m, 1<<20-1, "z", api.OK)
	checkWrite(t, m, 0, image+"z", api.ErrMemAt)
	checkImage(t, m, image[:1<<20-8]+"\x88\x77\x66\x55\x44\x33\x22z")
}

func TestLoadEverywhere(t *testing.T) {
	m, image := filled(t, 64)
	for _, n := range wordSizes {
		for at := 0; at+n <= 64; at++ {
			checkLoad(t, m, at, n, decoding(image[at:at+n]), api.OK)
		}
	}
	checkImage(t, m, image)
}

func TestLoadValues(t *testing.T) {
	m := newMemory(t, 64)
	checkWrite(t, m, 10, "\x01\x02\x03\x04\x05\x06\x07\x88", api.OK)
	checkLoad(t, m, 10, 1, 0x01, api.OK)
	checkLoad(t, m, 10, 2, 0x0201, api.OK)
	checkLoad(t, m, 10, 4, 0x04030201, api.OK)
	checkLoad(t, m, 10, 8, 0x8807060504030201, api.OK)
	checkLoad(t, m, 17, 4, 0x88, api.OK)
	checkLoad(t, m, 14, 4, 0x88070605, api.OK)
}

func TestLoadRefused(t *testing.T) {
	m, image := filled(t, 64)
	for _, n := range otherSizes {
		for _, at := range offsets(64) { // ahead of the offset's error
			checkLoad(t, m, at, n, 0, api.ErrArg)
		}
	}
	for _, n := range wordSizes {
		for _, at := range offsets(64) {
			if !inside(64, at, n) {
				checkLoad(t, m, at, n, 0, api.ErrMemAt)
			}
		}
	}
	checkIdle(t, m, image)
}

func TestStoreEverywhere(t *testing.T) {
	m, image := filled(t, 64)
	for _, n := range wordSizes {
		for at := 0; at+n <= 64; at++ {
			for _, v := range []uint64{limit(n), 0, 1, 0x80, limit(n) - 1, limit(n)/2 + 1, 0x0123456789abcdef & limit(n)} {
				image = image[:at] + encoding(v, n) + image[at+n:]
				checkStore(t, m, at, n, v, api.OK)
				checkImage(t, m, image)
			}
		}
	}
}

func TestStoreValues(t *testing.T) {
	m := newMemory(t, 64)
	checkStore(t, m, 0, 1, 0xff, api.OK)
	checkStore(t, m, 2, 2, 0x0102, api.OK)
	checkStore(t, m, 4, 4, 0x01020304, api.OK)
	checkStore(t, m, 8, 8, 0x0102030405060708, api.OK)
	checkStore(t, m, 56, 8, math.MaxUint64, api.OK)
	checkStore(t, m, 63, 1, 0, api.OK)
	checkImage(t, m, "\xff\x00\x02\x01\x04\x03\x02\x01\x08\x07\x06\x05\x04\x03\x02\x01"+strings.Repeat("\x00", 40)+"\xff\xff\xff\xff\xff\xff\xff\x00")
}

func TestStoreGreatest(t *testing.T) {
	m := newMemory(t, 64)
	for _, n := range wordSizes {
		checkStore(t, m, 20, n, limit(n), api.OK)
		checkLoad(t, m, 20, n, limit(n), api.OK)
		checkRead(t, m, 19, n+2, "\x00"+strings.Repeat("\xff", n)+"\x00", api.OK)
	}
}

func TestStoreTooGreat(t *testing.T) {
	m, image := filled(t, 64)
	for _, n := range []int{1, 2, 4} {
		for _, v := range []uint64{limit(n) + 1, limit(n) + 2, 2*limit(n) + 1, 1 << 63, math.MaxUint64} {
			for _, at := range offsets(64) { // ahead of the offset's error
				checkStore(t, m, at, n, v, api.ErrArg)
			}
		}
	}
	checkIdle(t, m, image)
}

func TestStoreRefused(t *testing.T) {
	m, image := filled(t, 64)
	for _, v := range []uint64{0, 1, 255, 256, 1 << 32, math.MaxUint64} {
		for _, n := range otherSizes {
			for _, at := range offsets(64) {
				checkStore(t, m, at, n, v, api.ErrArg)
			}
		}
	}
	for _, n := range wordSizes {
		for _, at := range offsets(64) {
			if !inside(64, at, n) {
				checkStore(t, m, at, n, 0, api.ErrMemAt)
				checkStore(t, m, at, n, limit(n), api.ErrMemAt)
			}
		}
	}
	checkIdle(t, m, image)
}

// P4.3

// Each kind of access, with its own agent, offset and number of bytes.
func TestLogKinds(t *testing.T) {
	m := newMemory(t, 64)
	var want []api.Access
	add := func(at, n int, write bool, agent int) {
		want = append(want, api.Access{Agent: agent, At: at, N: n, Write: write})
	}
	for i, agent := range []int{0, 1, 7, -1, math.MaxInt, math.MinInt, 1 << 32, 0, 7} {
		m.As(agent)
		checkWrite(t, m, i, "abc", api.OK)
		add(i, 3, true, agent)
		checkRead(t, m, i, 2, "ab", api.OK)
		add(i, 2, false, agent)
		for _, n := range wordSizes {
			checkStore(t, m, 64-n, n, 5, api.OK)
			add(64-n, n, true, agent)
			checkLoad(t, m, 64-n, n, 5, api.OK)
			add(64-n, n, false, agent)
		}
	}
	checkWrite(t, m, 0, strings.Repeat("w", 64), api.OK)
	add(0, 64, true, 7)
	checkRead(t, m, 0, 64, strings.Repeat("w", 64), api.OK)
	add(0, 64, false, 7)
	checkLog(t, m, want...)
}

// The agent set last is the one, and it stays when the log is returned.
func TestLogAgent(t *testing.T) {
	m := newMemory(t, 64)
	m.As(3)
	m.As(4)
	checkLog(t, m)
	m.Store(0, 1, 1)
	checkLog(t, m, api.Access{Agent: 4, At: 0, N: 1, Write: true})
	m.Load(0, 1)
	m.As(9)
	m.Load(99, 1)
	m.Load(0, 3)
	checkLog(t, m, api.Access{Agent: 4, At: 0, N: 1})
	m.Read(1, 2)
	checkLog(t, m, api.Access{Agent: 9, At: 1, N: 2})
}

func TestLogAskedTwice(t *testing.T) {
	m := newMemory(t, 64)
	checkLog(t, m)
	checkLog(t, m)
	m.Write(1, "a")
	m.Read(2, 3)
	checkLog(t, m, api.Access{At: 1, N: 1, Write: true}, api.Access{At: 2, N: 3})
	checkLog(t, m)
	m.Write(4, "bc")
	checkLog(t, m, api.Access{At: 4, N: 2, Write: true})
	checkLog(t, m)
	checkLog(t, m)
}

// Equal accesses are told as often as they were made.
func TestLogRepeats(t *testing.T) {
	m := newMemory(t, 64)
	for range 3 {
		m.Read(5, 2)
	}
	a := api.Access{At: 5, N: 2}
	checkLog(t, m, a, a, a)
}

func TestNoBytesNoAccess(t *testing.T) {
	m, image := filled(t, 64)
	for _, at := range []int{0, 1, 32, 63, 64} {
		checkRead(t, m, at, 0, "", api.OK)
		checkWrite(t, m, at, "", api.OK)
	}
	checkIdle(t, m, image)
	checkRead(t, m, 65, 0, "", api.ErrMemAt)
	checkWrite(t, m, 65, "", api.ErrMemAt)
	checkRead(t, m, -1, 0, "", api.ErrMemAt)
	checkWrite(t, m, -1, "", api.ErrMemAt)
	checkIdle(t, m, image)
}

// Between accesses, refused calls and those that look only leave no trace.
func TestNoAccessBetween(t *testing.T) {
	m := newMemory(t, 64)
	m.Write(0, "abc")
	m.Read(60, 5)
	m.Read(0, -1)
	m.Write(62, "abc")
	m.Load(0, 3)
	m.Load(64, 1)
	m.Store(0, 1, 256)
	m.Store(64, 1, 1)
	m.Read(64, 0)
	m.Write(64, "")
	m.May(0, 4)
	m.Image()
	m.Size()
	m.Clone()
	m.Load(0, 2)
	checkLog(t, m, api.Access{At: 0, N: 3, Write: true}, api.Access{At: 0, N: 2})
}

// trace makes so many accesses of which neighbours differ, and returns them.
func trace(m *gmem.Memory, first, number int) []api.Access {
	var l []api.Access
	for i := first; i < first+number; i++ {
		a := api.Access{Agent: i, At: i % 57, N: 1 + i%8, Write: i%3 == 0}
		m.As(a.Agent)
		if a.Write {
			m.Write(a.At, strings.Repeat("t", a.N))
		} else {
			m.Read(a.At, a.N)
		}
		l = append(l, a)
	}
	return l
}

// last are the last accesses that a log returns.
func last(l []api.Access) []api.Access { return l[max(0, len(l)-maxLog):] }

func TestLogLast(t *testing.T) {
	for _, number := range []int{0, 1, 2, 4095, 4096, 4097, 4098, 5000, 8191, 8192, 8193, 12288, 12289, 20000} {
		m := newMemory(t, 64)
		l := trace(m, 1, number)
		checkLog(t, m, last(l)...)
		checkLog(t, m)
		// What a log has dropped or returned leaves nothing in the next one.
		checkLog(t, m, trace(m, 100, 3)...)
		checkLog(t, m, last(trace(m, 200, 4100))...)
	}
}

// Calls that are no accesses displace none in a log that is full.
func TestLogFullStays(t *testing.T) {
	m := newMemory(t, 64)
	l := trace(m, 1, 4196)
	for range 100 {
		m.Read(0, 0)
		m.Write(64, "")
		m.Load(64, 1)
		m.Store(0, 1, 256)
	}
	checkLog(t, m, last(l)...)
}

// The returned log is its caller's own, with its spare capacity.
func TestLogIsCallersOwn(t *testing.T) {
	for _, number := range []int{1, 3, 4096, 5000} {
		m := newMemory(t, 64)
		l := trace(m, 1, number)
		first := m.Log()
		second := trace(m, 7000, 5)
		checkAccesses(t, first, last(l))
		all := first[:cap(first)]
		for i := range all {
			all[i] = api.Access{Agent: -5, At: -5, N: -5}
		}
		got := m.Log()
		checkAccesses(t, got, second)
		trace(m, 8000, number)
		checkAccesses(t, got, second)
		for i := range all {
			if all[i].Agent != -5 {
				t.Fatalf("access %d of a returned log was changed to %+v", i, all[i])
			}
		}
	}
}

// An image is of its time: later writes do not change it.
func TestImageAndReadStay(t *testing.T) {
	m, image := filled(t, 64)
	was := m.Image()
	part, _ := m.Read(0, 8)
	checkWrite(t, m, 0, strings.Repeat("\xee", 64), api.OK)
	if was != image || part != image[:8] {
		t.Error("bytes that were returned have changed")
	}
	checkImage(t, m, strings.Repeat("\xee", 64))
}

func TestCloneState(t *testing.T) {
	for _, size := range []int{64, 100, 1 << 20} {
		m, image := filled(t, size)
		m.As(11)
		m.Write(0, "xy")
		m.Load(8, 4)
		want := []api.Access{{Agent: 11, At: 0, N: 2, Write: true}, {Agent: 11, At: 8, N: 4}}
		c := m.Clone()
		if c == m || c.Size() != size {
			t.Error(size, c.Size())
		}
		checkImage(t, c, "xy"+image[2:])
		c.Read(5, 1) // by the same agent
		checkLog(t, c, append(slices.Clone(want), api.Access{Agent: 11, At: 5, N: 1})...)
		checkLog(t, m, want...)
		checkImage(t, m, "xy"+image[2:])
	}
}

func TestCloneIsIndependent(t *testing.T) {
	m, image := filled(t, 64)
	m.As(1)
	m.Read(0, 1)
	before := api.Access{Agent: 1, At: 0, N: 1}
	c := m.Clone()
	c.As(2)
	checkWrite(t, c, 0, "clone", api.OK)
	checkImage(t, m, image)
	checkWrite(t, m, 10, "original", api.OK)
	checkImage(t, c, "clone"+image[5:])
	checkLog(t, c, before, api.Access{Agent: 2, At: 0, N: 5, Write: true})
	checkLog(t, c)
	checkLog(t, m, before, api.Access{Agent: 1, At: 10, N: 8, Write: true})
	checkImage(t, m, image[:10]+"original"+image[18:])
	m.As(3)
	c.Read(1, 1)
	checkLog(t, c, api.Access{Agent: 2, At: 1, N: 1})
}

// A log that was returned is not in a clone; one that a clone returned is
// still in the original, and the other way round.
func TestCloneLog(t *testing.T) {
	m := newMemory(t, 64)
	trace(m, 1, 5)
	m.Log()
	l := trace(m, 50, 2)
	c := m.Clone()
	d := c.Clone()
	checkLog(t, c, l...)
	checkLog(t, m, l...)
	checkLog(t, m.Clone())
	checkLog(t, d, l...)
}

// Original and clone append to, and displace from, logs of their own, from
// every state of a log on.
func TestCloneFullLog(t *testing.T) {
	for _, number := range []int{0, 1, 5, 100, 4095, 4096, 4097, 5000, 8192, 9000} {
		for _, more := range []int{0, 1, 7, 4096, 4200} {
			m := newMemory(t, 64)
			l := trace(m, 1, number)
			c := m.Clone()
			d := c.Clone()
			ours := append(slices.Clone(l), trace(m, 20000, more)...)
			theirs := append(slices.Clone(l), trace(c, 30000, more+3)...)
			checkLog(t, m, last(ours)...)
			checkLog(t, c, last(theirs)...)
			checkLog(t, d, last(l)...)
		}
	}
}

// P4.4

func TestReadsWhatWasWritten(t *testing.T) {
	m := newMemory(t, 64)
	s := scattered(20, 3)
	checkWrite(t, m, 17, s, api.OK)
	for from := range 21 {
		for n := 0; from+n <= 20; n++ {
			checkRead(t, m, 17+from, n, s[from:from+n], api.OK)
		}
	}
	for _, n := range wordSizes {
		for from := 0; from+n <= 20; from++ {
			checkLoad(t, m, 17+from, n, decoding(s[from:from+n]), api.OK)
		}
	}
	checkImage(t, m, strings.Repeat("\x00", 17)+s+strings.Repeat("\x00", 27))
}

// Numbers are loaded in parts of every size that are within them.
func TestLoadsPartsOfWhatWasStored(t *testing.T) {
	const v = 0xf1e2d3c4b5a69788
	m := newMemory(t, 64)
	checkStore(t, m, 31, 8, v, api.OK)
	for _, n := range wordSizes {
		for i := 0; i+n <= 8; i++ {
			checkLoad(t, m, 31+i, n, v>>(8*i)&limit(n), api.OK)
		}
	}
	for i := range 8 {
		checkStore(t, m, 50+i, 1, v>>(8*i)&255, api.OK)
	}
	checkLoad(t, m, 50, 8, v, api.OK)
}

// model is a memory whose bytes are a string and whose log is never cut.
type model struct {
	image string
	agent int
	log   []api.Access
}

func (o *model) access(at, n int, write bool) {
	if n > 0 {
		o.log = append(o.log, api.Access{Agent: o.agent, At: at, N: n, Write: write})
	}
}

func (o *model) write(at int, s string) {
	o.image = o.image[:at] + s + o.image[at+len(s):]
	o.access(at, len(s), true)
}

// step makes one call, chosen by random numbers, and holds it against the model.
func (o *model) step(t *testing.T, m *gmem.Memory, next func(int) int) {
	size := len(o.image)
	at, n := next(size+6)-3, next(12)-1
	may := inside(size, at, n)
	refused := api.ErrMemAt
	switch next(6) {
	case 0:
		if n < 0 {
			refused = api.ErrArg
		}
		if !may {
			checkRead(t, m, at, n, "", refused)
			return
		}
		checkRead(t, m, at, n, o.image[at:at+n], api.OK)
		o.access(at, n, false)
	case 1:
		s := scattered(max(n, 0), uint32(next(1<<30)))
		if !inside(size, at, len(s)) {
			checkWrite(t, m, at, s, refused)
			return
		}
		checkWrite(t, m, at, s, api.OK)
		o.write(at, s)
	case 2:
		if !slices.Contains(wordSizes, n) {
			refused, may = api.ErrArg, false
		}
		if !may {
			checkLoad(t, m, at, n, 0, refused)
			return
		}
		checkLoad(t, m, at, n, decoding(o.image[at:at+n]), api.OK)
		o.access(at, n, false)
	case 3:
		v := uint64(next(1<<30)) >> next(30)
		if !slices.Contains(wordSizes, n) || v > limit(n) {
			refused, may = api.ErrArg, false
		}
		if !may {
			checkStore(t, m, at, n, v, refused)
			return
		}
		checkStore(t, m, at, n, v, api.OK)
		o.write(at, encoding(v, n))
	case 4:
		o.agent = next(5) - 2
		m.As(o.agent)
	case 5:
		checkMay(t, m, at, n, may)
	}
}

// Many calls of all kinds answer, write and log as the model does: each access
// is in exactly one log.
func TestCallsInAnyOrder(t *testing.T) {
	for seed := range uint64(8) {
		state := seed + 1
		next := func(below int) int {
			state = state*6364136223846793005 + 1442695040888963407
			return int(state>>33) % below
		}
		size := 64 + next(64)
		m, o := newMemory(t, size), &model{image: strings.Repeat("\x00", size)}
		for i := range 30000 {
			o.step(t, m, next)
			if i%50 == 0 {
				checkImage(t, m, o.image)
			}
			if next(500) == 0 {
				c := m.Clone()
				checkLog(t, m, last(o.log)...)
				m = c // goes on with the accesses that were not returned
			}
			if next(6000) == 0 {
				checkLog(t, m, last(o.log)...)
				o.log = nil
			}
			if t.Failed() {
				t.Fatalf("seed %d, call %d", seed, i)
			}
		}
		checkImage(t, m, o.image)
		checkLog(t, m, last(o.log)...)
	}
}
