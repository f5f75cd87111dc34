package spot_test

import (
	"encoding/binary"
	"fmt"
	"math"
	"strings"
	"testing"

	"aqueduct/api"
	"aqueduct/spot"
)

// at is the position of this slot and wrap counter.
func at(slot int, wrap bool) api.Spot { return api.Spot{At: slot, Wrap: wrap} }

// bools are both settings of a wrap counter.
func bools() []bool { return []bool{false, true} }

// sizes are those of rings: of all small ones, of the greatest ones, and of
// such as are or aren't powers of two.
func sizes() []int {
	all := []int{31, 32, 33, 100, 255, 256, 257, 1000, 1024, 4095, 16384, 16385, 32766, 32767, 32768}
	for size := 1; size <= 20; size++ {
		all = append(all, size)
	}
	return all
}

// ends are numbers at the ends of an int, and such as are small ones where
// their sign or their upper bits are lost.
func ends() []int {
	return []int{math.MinInt, math.MinInt + 1, math.MinInt + 2, math.MinInt32, -1 << 32, -1<<32 + 1, -65536, -65535, -32769, -32768, -32767, -3, -2, -1, 1 << 16, 1<<16 + 1, 1 << 31, 1 << 32, 1<<32 + 1, 1<<62 + 1, math.MaxInt - 1, math.MaxInt}
}

// wrongSizes are those of no ring.
func wrongSizes() []int { return append(ends(), 0, 32769, 32770, 65535) }

// wrongSlots are those that a ring doesn't have.
func wrongSlots(size int) []int {
	return append(ends(), size, size+1, 2*size, 2*size+1, 32768, 32769)
}

// slots are some of a ring: both of its ends, and others.
func slots(size int) []int {
	all := []int{}
	for _, slot := range []int{0, 1, 2, size / 3, size / 2, size - 3, size - 2, size - 1} {
		if 0 <= slot && slot < size {
			all = append(all, slot)
		}
	}
	return all
}

// positions are all of a ring, in the order of the steps: what the functions
// are held against.
func positions(size int) []api.Spot {
	all := []api.Spot{}
	for _, wrap := range bools() {
		for slot := range size {
			all = append(all, at(slot, wrap))
		}
	}
	return all
}

// walk is where single steps by the chapter's words lead: the position after
// that of the last slot is the one of slot 0 with the other Wrap.
func walk(s api.Spot, n, size int) api.Spot {
	for range n {
		if s.At == size-1 {
			s = at(0, !s.Wrap)
		} else {
			s = at(s.At+1, s.Wrap)
		}
	}
	return s
}

// scattered has n bytes without a pattern.
func scattered(n int, seed uint32) string {
	b := make([]byte, n)
	for i := range b {
		seed = seed*1664525 + 1013904223
		b[i] = byte(seed >> 24)
	}
	return string(b)
}

// encoding is what Build is held against: the library's own encodings.
func encoding(e api.Event) string {
	off := uint16(e.Off)
	if e.Wrap {
		off += 32768
	}
	b := binary.LittleEndian.AppendUint16(nil, off)
	return string(binary.LittleEndian.AppendUint16(b, uint16(e.Flags)))
}

// decoding is what Parse is held against: the library's own decodings.
func decoding(s string) api.Event {
	off := int(binary.LittleEndian.Uint16([]byte(s)))
	flags := int(binary.LittleEndian.Uint16([]byte(s)[2:]))
	return api.Event{Off: off % 32768, Wrap: off >= 32768, Flags: flags}
}

// short is s as a message shows it.
func short(s string) string {
	if len(s) <= 20 {
		return fmt.Sprintf("%x", s)
	}
	return fmt.Sprintf("%x.. of %d bytes", s[:20], len(s))
}

func checkCheck(t *testing.T, s api.Spot, size int, want api.Errno) {
	t.Helper()
	if e := spot.Check(s, size); e != want {
		t.Errorf("Check(%v, %d): %d, want %d", s, size, e, want)
	}
}

func checkNext(t *testing.T, s api.Spot, n, size int, want api.Spot) {
	t.Helper()
	if got, e := spot.Next(s, n, size); got != want || e != api.OK {
		t.Errorf("Next(%v, %d, %d): %v, %d, want %v", s, n, size, got, e, want)
	}
}

func checkNoNext(t *testing.T, s api.Spot, n, size int, want api.Errno) {
	t.Helper()
	if got, e := spot.Next(s, n, size); got != (api.Spot{}) || e != want {
		t.Errorf("Next(%v, %d, %d): %v, %d, want nothing and %d", s, n, size, got, e, want)
	}
}

func checkGap(t *testing.T, from, to api.Spot, size, want int) {
	t.Helper()
	if got, e := spot.Gap(from, to, size); got != want || e != api.OK {
		t.Errorf("Gap(%v, %v, %d): %d, %d, want %d", from, to, size, got, e, want)
	}
}

func checkNoGap(t *testing.T, from, to api.Spot, size int, want api.Errno) {
	t.Helper()
	if got, e := spot.Gap(from, to, size); got != 0 || e != want {
		t.Errorf("Gap(%v, %v, %d): %d, %d, want 0 and %d", from, to, size, got, e, want)
	}
}

func checkParse(t *testing.T, s string, want api.Event) {
	t.Helper()
	if got, e := spot.Parse(s); got != want || e != api.OK {
		t.Errorf("Parse(%x): %v, %d, want %v", s, got, e, want)
	}
}

func checkNoParse(t *testing.T, s string) {
	t.Helper()
	if got, e := spot.Parse(s); got != (api.Event{}) || e != api.ErrArg {
		t.Errorf("Parse(%s): %v, %d, want nothing and ErrArg", short(s), got, e)
	}
}

func checkBuild(t *testing.T, e api.Event, want string) {
	t.Helper()
	if s, err := spot.Build(e); s != want || err != api.OK {
		t.Errorf("Build(%v): %x, %d, want %x", e, s, err, want)
	}
}

func checkNoBuild(t *testing.T, e api.Event) {
	t.Helper()
	if s, err := spot.Build(e); s != "" || err != api.ErrArg {
		t.Errorf("Build(%v): %x, %d, want nothing and ErrArg", e, s, err)
	}
}

func checkNeed(t *testing.T, e api.Event, from, to api.Spot, size int, want bool) {
	t.Helper()
	if got := spot.Need(e, from, to, size); got != want {
		t.Errorf("Need(%v, %v, %v, %d): %v", e, from, to, size, got)
	}
}

// P13.1

func TestCheckEdges(t *testing.T) {
	for _, x := range []struct {
		at, size int
		want     api.Errno
	}{
		{0, math.MinInt, api.ErrSpotSize},
		{0, -1, api.ErrSpotSize},
		{0, 0, api.ErrSpotSize},
		{0, 1, api.OK},
		{1, 1, api.ErrArg},
		{0, 2, api.OK},
		{1, 2, api.OK},
		{2, 2, api.ErrArg},
		{32766, 32767, api.OK},
		{32767, 32767, api.ErrArg},
		{32767, 32768, api.OK},
		{32768, 32768, api.ErrArg},
		{0, 32769, api.ErrSpotSize},
		{32767, 32769, api.ErrSpotSize},
		{32768, 32769, api.ErrSpotSize},
		{0, math.MaxInt, api.ErrSpotSize},
		{-1, 4, api.ErrArg},
		{3, 4, api.OK},
		{4, 4, api.ErrArg},
		{5, 4, api.ErrArg},
		{math.MinInt, 4, api.ErrArg},
		{math.MaxInt, 4, api.ErrArg},
		{math.MinInt, 32768, api.ErrArg},
		{math.MaxInt, 32768, api.ErrArg},
	} {
		for _, wrap := range bools() {
			checkCheck(t, at(x.at, wrap), x.size, x.want)
		}
	}
}

// Every slot of every size is one, and those beside the ring are none.
func TestCheckSlots(t *testing.T) {
	for _, size := range sizes() {
		for _, wrap := range bools() {
			for slot := range size {
				checkCheck(t, at(slot, wrap), size, api.OK)
			}
			for _, slot := range wrongSlots(size) {
				if slot < 0 || slot >= size {
					checkCheck(t, at(slot, wrap), size, api.ErrArg)
				}
			}
		}
	}
}

func TestCheckEverySize(t *testing.T) {
	for size := -70000; size <= 70000; size++ {
		ring := 1 <= size && size <= 32768
		for _, wrap := range bools() {
			for _, slot := range []int{-1, 0, size - 1, size} {
				want := api.ErrSpotSize
				switch {
				case ring && (slot < 0 || slot >= size):
					want = api.ErrArg
				case ring:
					want = api.OK
				}
				checkCheck(t, at(slot, wrap), size, want)
			}
		}
	}
}

// A wrong size comes first, whatever the slot is.
func TestCheckWrongSizes(t *testing.T) {
	for _, size := range wrongSizes() {
		for _, wrap := range bools() {
			for _, slot := range append(ends(), 0, 1, 7, 32767, 32768, size-1, size, size+1) {
				checkCheck(t, at(slot, wrap), size, api.ErrSpotSize)
			}
		}
	}
}

// P13.2

func TestNextExamples(t *testing.T) {
	for _, x := range []struct {
		s       api.Spot
		n, size int
		want    api.Spot
	}{
		{at(3, false), 2, 4, at(1, true)},
		{at(3, true), 2, 4, at(1, false)},
		{at(0, false), 0, 1, at(0, false)},
		{at(0, false), 1, 1, at(0, true)},
		{at(0, true), 0, 1, at(0, true)},
		{at(0, true), 1, 1, at(0, false)},
		{at(1, false), 1, 2, at(0, true)},
		{at(1, false), 2, 2, at(1, true)},
		{at(0, true), 3, 4, at(3, true)},
		{at(0, true), 4, 4, at(0, false)},
		{at(2, true), 3, 5, at(0, false)},
		{at(2, true), 5, 5, at(2, false)},
		{at(0, false), 32767, 32768, at(32767, false)},
		{at(0, false), 32768, 32768, at(0, true)},
		{at(32767, false), 1, 32768, at(0, true)},
		{at(32767, true), 32768, 32768, at(32767, false)},
		{at(32767, true), 32767, 32768, at(32766, false)},
	} {
		checkNext(t, x.s, x.n, x.size, x.want)
	}
}

// From each position of small rings, by each number of steps.
func TestNextEverywhere(t *testing.T) {
	for size := 1; size <= 40; size++ {
		for _, s := range positions(size) {
			for n := range size + 1 {
				checkNext(t, s, n, size, walk(s, n, size))
			}
		}
	}
}

func TestNextAtEnds(t *testing.T) {
	for _, size := range sizes() {
		all := positions(size)
		for i, s := range all {
			if s.At > 2 && s.At < size-3 && s.At != size/2 {
				continue
			}
			for _, n := range []int{0, 1, 2, size / 2, size - 2, size - 1, size} {
				if 0 <= n && n <= size {
					checkNext(t, s, n, size, all[(i+n)%(2*size)])
				}
			}
		}
	}
}

// Single steps visit each position once, in order, and then begin again.
func TestNextOneByOne(t *testing.T) {
	for _, size := range sizes() {
		s := at(0, false)
		for _, want := range positions(size) {
			if s != want {
				t.Fatalf("size %d: %v, want %v", size, s, want)
			}
			next, e := spot.Next(s, 1, size)
			if e != api.OK {
				t.Fatalf("Next(%v, 1, %d): %d", s, size, e)
			}
			s = next
		}
		if s != at(0, false) {
			t.Errorf("size %d: the last position leads to %v", size, s)
		}
	}
}

func TestNextWrongSteps(t *testing.T) {
	for _, size := range sizes() {
		for _, wrap := range bools() {
			for _, slot := range slots(size) {
				for _, n := range append(ends(), size+1, size+2, 2*size, 2*size+1, 32769) {
					if n < 0 || n > size {
						checkNoNext(t, at(slot, wrap), n, size, api.ErrArg)
					}
				}
			}
		}
	}
}

// The error of Check comes first: a wrong size ahead of wrong steps, and a
// wrong position with right steps and with wrong ones.
func TestNextWrongPlaces(t *testing.T) {
	for _, wrap := range bools() {
		for _, size := range wrongSizes() {
			for _, slot := range []int{math.MinInt, -1, 0, 1, size - 1, size, 32768, math.MaxInt} {
				for _, n := range []int{math.MinInt, -1, 0, 1, size, size + 1, math.MaxInt} {
					checkNoNext(t, at(slot, wrap), n, size, api.ErrSpotSize)
				}
			}
		}
		for _, size := range []int{1, 2, 3, 4, 1000, 32768} {
			for _, slot := range wrongSlots(size) {
				if 0 <= slot && slot < size {
					continue
				}
				for _, n := range []int{math.MinInt, -slot, -1, 0, 1, size - 1, size, size + 1, math.MaxInt} {
					checkNoNext(t, at(slot, wrap), n, size, api.ErrArg)
				}
			}
		}
	}
}

func TestGapExamples(t *testing.T) {
	for _, x := range []struct {
		from, to   api.Spot
		size, want int
	}{
		{at(3, false), at(1, true), 4, 2},
		{at(1, false), at(1, false), 4, 0},
		{at(1, false), at(1, true), 4, 4},
		{at(1, true), at(1, false), 4, 4},
		{at(1, false), at(0, true), 4, 3},
		{at(1, false), at(2, true), 4, 5},
		{at(1, false), at(0, false), 4, 7},
		{at(1, true), at(3, false), 4, 6},
		{at(0, false), at(0, false), 1, 0},
		{at(0, false), at(0, true), 1, 1},
		{at(0, true), at(0, false), 1, 1},
		{at(0, false), at(32767, true), 32768, 65535},
		{at(32767, true), at(0, false), 32768, 1},
		{at(32767, false), at(0, false), 32768, 32769},
		{at(0, true), at(32767, true), 32768, 32767},
		{at(32767, false), at(32766, false), 32768, 65535},
	} {
		checkGap(t, x.from, x.to, x.size, x.want)
	}
}

// Each pair of positions of small rings, by their places in the order.
func TestGapEveryPair(t *testing.T) {
	for size := 1; size <= 40; size++ {
		all := positions(size)
		for i, from := range all {
			for j, to := range all {
				checkGap(t, from, to, size, (j-i+2*size)%(2*size))
			}
		}
	}
}

// To itself, to the one before it, to the one after it, and to the same slot
// with the other Wrap, in every ring.
func TestGapNeighbours(t *testing.T) {
	for _, size := range sizes() {
		all := positions(size)
		for i, s := range all {
			checkGap(t, s, s, size, 0)
			checkGap(t, s, all[(i+2*size-1)%(2*size)], size, 2*size-1)
			checkGap(t, s, all[(i+1)%(2*size)], size, 1)
			checkGap(t, s, at(s.At, !s.Wrap), size, size)
		}
	}
}

func TestGapWrongPositions(t *testing.T) {
	for _, size := range []int{1, 2, 3, 4, 1000, 32768} {
		for _, slot := range wrongSlots(size) {
			if 0 <= slot && slot < size {
				continue
			}
			for _, wrap := range bools() {
				wrong := at(slot, wrap)
				for _, right := range []api.Spot{at(0, wrap), at(0, !wrap), at(size-1, wrap), at(size-1, !wrap)} {
					checkNoGap(t, wrong, right, size, api.ErrArg)
					checkNoGap(t, right, wrong, size, api.ErrArg)
				}
				checkNoGap(t, wrong, wrong, size, api.ErrArg)
				checkNoGap(t, wrong, at(slot, !wrap), size, api.ErrArg)
				for _, other := range []int{math.MinInt, -1, size, math.MaxInt} {
					checkNoGap(t, wrong, at(other, wrap), size, api.ErrArg)
					checkNoGap(t, at(other, !wrap), wrong, size, api.ErrArg)
				}
			}
		}
	}
}

// A wrong size comes ahead of wrong positions, whichever of both is wrong.
func TestGapWrongSizes(t *testing.T) {
	for _, size := range wrongSizes() {
		some := []int{math.MinInt, -1, 0, 1, size - 1, size, 32768, math.MaxInt}
		for _, wrap := range bools() {
			for _, from := range some {
				for _, to := range some {
					checkNoGap(t, at(from, wrap), at(to, wrap), size, api.ErrSpotSize)
					checkNoGap(t, at(from, wrap), at(to, !wrap), size, api.ErrSpotSize)
				}
			}
		}
	}
}

// P13.3

func TestParseExamples(t *testing.T) {
	checkParse(t, "\x00\x00\x00\x00", api.Event{})
	checkParse(t, "\xff\xff\xff\xff", api.Event{Off: 32767, Wrap: true, Flags: 65535})
	checkParse(t, "\x34\x12\x01\x00", api.Event{Off: 0x1234, Flags: 1})
	checkParse(t, "\x34\x92\x78\x56", api.Event{Off: 0x1234, Wrap: true, Flags: 0x5678})
	checkParse(t, "abcd", api.Event{Off: 0x6261, Flags: 0x6463})
	checkParse(t, "\x01\x82\x03\x84", api.Event{Off: 0x0201, Wrap: true, Flags: 0x8403})
	// The bit 2^15 alone and all but it, in each of both numbers.
	checkParse(t, "\x00\x80\x00\x00", api.Event{Wrap: true})
	checkParse(t, "\xff\x7f\xff\xff", api.Event{Off: 32767, Flags: 65535})
	checkParse(t, "\xff\x7f\x00\x00", api.Event{Off: 32767})
	checkParse(t, "\x00\x00\x00\x80", api.Event{Flags: 32768})
	checkParse(t, "\xff\xff\xff\x7f", api.Event{Off: 32767, Wrap: true, Flags: 32767})
	checkParse(t, "\x00\x00\xff\x7f", api.Event{Flags: 32767})
}

// Each number of two bytes in both places, with the least and the greatest one
// and others in the other place.
func TestParseEveryNumber(t *testing.T) {
	for v := range 1 << 16 {
		pair := string([]byte{byte(v), byte(v >> 8)})
		for _, other := range []string{"\x00\x00", "\xff\xff", "\x00\x80", "\xff\x7f", "\x34\x12"} {
			checkParse(t, pair+other, decoding(pair+other))
			checkParse(t, other+pair, decoding(other+pair))
		}
	}
}

// Every other number of bytes, whatever they are; also those of events that
// follow each other.
func TestParseWrongSizes(t *testing.T) {
	for n := range 70 {
		if n == 4 {
			continue
		}
		checkNoParse(t, strings.Repeat("\x00", n))
		checkNoParse(t, strings.Repeat("\xff", n))
		checkNoParse(t, scattered(n, 1))
	}
	for _, n := range []int{255, 256, 260, 65535, 65536, 65540, 1<<20 + 4} {
		checkNoParse(t, scattered(n, 2))
	}
	checkNoParse(t, "")
	checkNoParse(t, "abc")
	checkNoParse(t, "abcde")
	checkNoParse(t, "abcdabcd")
}

// Bytes are counted, not runes.
func TestParseCountsBytes(t *testing.T) {
	checkNoParse(t, strings.Repeat("\u00e9", 4))
	s := strings.Repeat("\u00e9", 2)
	checkParse(t, s, decoding(s))
}

func TestBuildExamples(t *testing.T) {
	checkBuild(t, api.Event{}, "\x00\x00\x00\x00")
	checkBuild(t, api.Event{Wrap: true}, "\x00\x80\x00\x00")
	checkBuild(t, api.Event{Off: 1}, "\x01\x00\x00\x00")
	checkBuild(t, api.Event{Off: 1, Wrap: true}, "\x01\x80\x00\x00")
	checkBuild(t, api.Event{Off: 32767}, "\xff\x7f\x00\x00")
	checkBuild(t, api.Event{Off: 32767, Wrap: true}, "\xff\xff\x00\x00")
	checkBuild(t, api.Event{Off: 0x1234, Flags: 0x5678}, "\x34\x12\x78\x56")
	checkBuild(t, api.Event{Off: 0x1234, Wrap: true, Flags: 2}, "\x34\x92\x02\x00")
	checkBuild(t, api.Event{Flags: 1}, "\x00\x00\x01\x00")
	checkBuild(t, api.Event{Flags: 3}, "\x00\x00\x03\x00")
	checkBuild(t, api.Event{Flags: 65535}, "\x00\x00\xff\xff")
	checkBuild(t, api.Event{Off: 32767, Wrap: true, Flags: 65535}, "\xff\xff\xff\xff")
}

func TestBuildEveryNumber(t *testing.T) {
	for v := range 1 << 16 {
		for _, wrap := range bools() {
			for _, off := range []int{0, 1, 0x1234, 32766, 32767} {
				e := api.Event{Off: off, Wrap: wrap, Flags: v}
				checkBuild(t, e, encoding(e))
			}
			for _, flags := range []int{0, 1, 2, 3, 0x1234, 65534, 65535} {
				e := api.Event{Off: v % 32768, Wrap: wrap, Flags: flags}
				checkBuild(t, e, encoding(e))
			}
		}
	}
}

// wrongOffs and wrongFlags are numbers that an event doesn't hold.
func wrongOffs() []int { return append(ends(), 32768, 32769, 32768+1234, 65535) }

func wrongFlags() []int { return append(ends(), 131071, 1<<17, 65536+2) }

// A wrong number in Off, in Flags and in both: neither a right one beside it
// nor another wrong one makes up for it.
func TestBuildWrong(t *testing.T) {
	for _, wrap := range bools() {
		for _, off := range wrongOffs() {
			for _, flags := range append(wrongFlags(), 0, 1, 2, 3, 65535) {
				checkNoBuild(t, api.Event{Off: off, Wrap: wrap, Flags: flags})
			}
		}
		for _, flags := range wrongFlags() {
			for _, off := range []int{0, 1, 0x1234, 32766, 32767} {
				checkNoBuild(t, api.Event{Off: off, Wrap: wrap, Flags: flags})
			}
		}
	}
}

func TestBuiltIsParsed(t *testing.T) {
	for off := range 32768 {
		for _, wrap := range bools() {
			for _, flags := range []int{0, 1, 2, 3, 32768, 65535, off, 2*off + 1} {
				e := api.Event{Off: off, Wrap: wrap, Flags: flags}
				s, err := spot.Build(e)
				if len(s) != 4 || err != api.OK {
					t.Errorf("Build(%v): %x, %d", e, s, err)
				}
				checkParse(t, s, e)
			}
		}
	}
}

func TestParsedIsBuilt(t *testing.T) {
	for seed := range uint32(50000) {
		s := scattered(4, seed)
		e, err := spot.Parse(s)
		if err != api.OK {
			t.Errorf("Parse(%x): %d", s, err)
		}
		checkBuild(t, e, s)
	}
}

// P13.4

// every and none are events of Flags 0 and of such as never require anything;
// of is the one of a position.
func every() api.Event { return api.Event{Flags: 0} }

func of(s api.Spot) api.Event { return api.Event{Off: s.At, Wrap: s.Wrap, Flags: 2} }

func noneFlags() []int {
	return append(ends(), 1, 3, 4, 5, 6, 258, 32768, 32770, 65534, 65535)
}

func TestNeedExamples(t *testing.T) {
	for _, x := range []struct {
		e        api.Event
		from, to api.Spot
		want     bool
	}{
		{api.Event{Off: 0, Wrap: true, Flags: 2}, at(3, false), at(1, true), true},
		{api.Event{Off: 0, Wrap: false, Flags: 2}, at(3, false), at(1, true), false},
		{api.Event{Off: 3, Wrap: false, Flags: 2}, at(3, false), at(1, true), true},
		{api.Event{Off: 2, Wrap: false, Flags: 2}, at(3, false), at(1, true), false},
		{api.Event{Off: 1, Wrap: true, Flags: 2}, at(3, false), at(1, true), false},
		{api.Event{Off: 4, Wrap: true, Flags: 2}, at(3, false), at(1, true), false},
		{api.Event{}, at(3, false), at(1, true), true},
		{api.Event{}, at(3, false), at(3, false), false},
		{api.Event{}, at(3, false), at(3, true), true},
		{api.Event{}, at(3, false), at(0, false), false},
		{api.Event{Flags: 1}, at(3, false), at(1, true), false},
		{api.Event{Flags: 3}, at(3, false), at(1, true), false},
		{api.Event{Flags: -1}, at(3, false), at(1, true), false},
		{api.Event{Flags: 65535}, at(3, false), at(1, true), false},
	} {
		checkNeed(t, x.e, x.from, x.to, 4, x.want)
	}
}

// Flags 0: steps are required to be told if there are any, from 1 to size; Off
// and Wrap make no difference, also where they are in no ring.
func TestNeedOfEveryStep(t *testing.T) {
	for _, size := range sizes() {
		for _, wrap := range bools() {
			for _, slot := range slots(size) {
				s := at(slot, wrap)
				for _, off := range []int{math.MinInt, -1, 0, slot, size - 1, size, 32768, math.MaxInt} {
					e := api.Event{Off: off, Wrap: !wrap}
					checkNeed(t, e, s, s, size, false)
					checkNeed(t, e, s, walk(s, 1, size), size, true)
					checkNeed(t, e, s, walk(s, size-1, size), size, size > 1)
					checkNeed(t, e, s, walk(s, size, size), size, true)
					checkNeed(t, e, s, walk(s, size+1, size), size, false)
					checkNeed(t, e, s, walk(s, 2*size-1, size), size, size == 1)
				}
			}
		}
	}
}

// Any other Flags but 2: never, wherever the event is.
func TestNeedOfNone(t *testing.T) {
	for _, size := range []int{1, 2, 3, 4, 7, 32768} {
		for _, flags := range noneFlags() {
			for _, wrap := range bools() {
				for _, slot := range slots(size) {
					s := at(slot, wrap)
					e := api.Event{Off: slot, Wrap: wrap, Flags: flags}
					for _, n := range []int{0, 1, size / 2, size, size + 1} {
						checkNeed(t, e, s, walk(s, n, size), size, false)
					}
				}
			}
		}
	}
}

// Every Flags of two bytes, of an event that Flags 2 would tell.
func TestNeedOfEveryFlags(t *testing.T) {
	for flags := range 1 << 16 {
		e := api.Event{Off: 3, Flags: flags}
		checkNeed(t, e, at(3, false), at(1, true), 4, flags == 0 || flags == 2)
		e = api.Event{Off: 2, Flags: flags}
		checkNeed(t, e, at(3, false), at(1, true), 4, flags == 0)
	}
}

// Flags 2: the event at the first and at the last of the steps, just before
// and just behind them, and with the other Wrap, in every ring.
func TestNeedOfPosition(t *testing.T) {
	for _, size := range sizes() {
		for _, wrap := range bools() {
			for _, slot := range slots(size) {
				from := at(slot, wrap)
				before := walk(from, 2*size-1, size)
				for _, n := range []int{1, 2, size / 2, size - 1, size} {
					if n < 1 || n > size {
						continue
					}
					to, last := walk(from, n, size), walk(from, n-1, size)
					checkNeed(t, of(from), from, to, size, true)
					checkNeed(t, of(last), from, to, size, true)
					checkNeed(t, of(before), from, to, size, false)
					checkNeed(t, of(to), from, to, size, false)
					checkNeed(t, of(at(from.At, !from.Wrap)), from, to, size, false)
					checkNeed(t, of(at(last.At, !last.Wrap)), from, to, size, false)
				}
			}
		}
	}
}

// No steps and more than size require nothing, wherever the event is.
func TestNeedOfPositionWithoutSteps(t *testing.T) {
	for _, size := range []int{1, 2, 3, 4, 5, 8} {
		for _, s := range positions(size) {
			for _, from := range positions(size) {
				checkNeed(t, of(s), from, from, size, false)
				for n := size + 1; n < 2*size; n++ {
					checkNeed(t, of(s), from, walk(from, n, size), size, false)
				}
			}
		}
	}
}

// needed is what Need is held against: each position that the steps leave is
// held against the event.
func needed(e api.Event, from api.Spot, n, size int) bool {
	if n > size {
		return false
	}
	for i := range n {
		s := walk(from, i, size)
		if e.Flags == 0 || e.Flags == 2 && e.Off == s.At && e.Wrap == s.Wrap {
			return true
		}
	}
	return false
}

// Each event, position and number of steps of small rings; an Off may also be
// outside of them.
func TestNeedEverywhere(t *testing.T) {
	for size := 1; size <= 8; size++ {
		for _, from := range positions(size) {
			for n := range 2 * size {
				to := walk(from, n, size)
				for off := -2; off <= 2*size+2; off++ {
					for _, wrap := range bools() {
						for flags := -2; flags <= 5; flags++ {
							e := api.Event{Off: off, Wrap: wrap, Flags: flags}
							checkNeed(t, e, from, to, size, needed(e, from, n, size))
						}
					}
				}
			}
		}
	}
}

// An Off outside the ring is at none of its positions, though it would be at
// one of the steps if it were counted on from the last slot, or back from the
// first one.
func TestNeedOffOutside(t *testing.T) {
	for _, size := range []int{1, 2, 3, 4, 5, 1000, 32767, 32768} {
		for _, from := range []api.Spot{at(0, false), at(0, true), at(size-1, false), at(size-1, true)} {
			for _, n := range []int{1, size} {
				to := walk(from, n, size)
				for _, off := range append(wrongSlots(size), 32767, -size) {
					if 0 <= off && off < size {
						continue
					}
					for _, wrap := range bools() {
						checkNeed(t, api.Event{Off: off, Wrap: wrap, Flags: 2}, from, to, size, false)
					}
				}
			}
		}
	}
}

// With a wrong position, or with a wrong size, nothing is required, also where
// both positions are equal or an event of Flags 0 or 2 is at one of them.
func TestNeedWrongPlaces(t *testing.T) {
	events := func(s api.Spot) []api.Event { return []api.Event{every(), of(s)} }
	for _, size := range []int{1, 2, 3, 4, 1000, 32768} {
		for _, slot := range wrongSlots(size) {
			if 0 <= slot && slot < size {
				continue
			}
			for _, wrap := range bools() {
				wrong := at(slot, wrap)
				for _, right := range []api.Spot{at(0, wrap), at(0, !wrap), at(size-1, wrap), at(size-1, !wrap)} {
					for _, e := range append(events(right), events(wrong)...) {
						checkNeed(t, e, wrong, right, size, false)
						checkNeed(t, e, right, wrong, size, false)
						checkNeed(t, e, wrong, wrong, size, false)
						checkNeed(t, e, wrong, at(slot, !wrap), size, false)
					}
				}
			}
		}
	}
	for _, size := range wrongSizes() {
		for _, wrap := range bools() {
			for _, from := range []int{-1, 0, 1, size - 1, size} {
				for _, to := range []int{-1, 0, 1, size - 1, size} {
					for _, e := range events(at(from, wrap)) {
						checkNeed(t, e, at(from, wrap), at(to, wrap), size, false)
						checkNeed(t, e, at(from, wrap), at(to, !wrap), size, false)
					}
				}
			}
		}
	}
}

// P13.5

// next is where n steps lead, which must be right ones.
func next(t *testing.T, s api.Spot, n, size int) api.Spot {
	t.Helper()
	to, e := spot.Next(s, n, size)
	if e != api.OK {
		t.Fatalf("Next(%v, %d, %d): %d", s, n, size, e)
	}
	return to
}

// Steps in two parts lead to where both together lead.
func TestStepsAddUp(t *testing.T) {
	for size := 1; size <= 20; size++ {
		for _, s := range positions(size) {
			for n := range size + 1 {
				for m := range size + 1 - n {
					checkNext(t, next(t, s, n, size), m, size, next(t, s, n+m, size))
				}
			}
		}
	}
	for _, size := range sizes() {
		for _, wrap := range bools() {
			for _, slot := range slots(size) {
				for _, n := range []int{0, 1, size / 3, size / 2, size - 1, size} {
					s := at(slot, wrap)
					checkNext(t, next(t, s, n, size), size-n, size, next(t, s, size, size))
				}
			}
		}
	}
}

// size steps lead to the same slot with the other Wrap, and as many again lead
// back, in whatever parts.
func TestBothPassesLeadBack(t *testing.T) {
	for _, size := range sizes() {
		for _, wrap := range bools() {
			for _, slot := range slots(size) {
				s := at(slot, wrap)
				half := next(t, s, size, size)
				if half != at(slot, !wrap) {
					t.Errorf("Next(%v, %d, %d): %v", s, size, size, half)
				}
				checkNext(t, half, size, size, s)
				for _, n := range []int{0, 1, size / 3, size / 2, size - 1} {
					first := next(t, next(t, s, n, size), size-n, size)
					checkNext(t, next(t, first, size-n, size), n, size, s)
				}
			}
		}
	}
}

// Gap tells how many steps Next made, and the rest of both passes leads back.
func checkThereAndBack(t *testing.T, s api.Spot, n, size int) {
	t.Helper()
	to := next(t, s, n, size)
	checkGap(t, s, to, size, n)
	checkGap(t, to, s, size, (2*size-n)%(2*size))
}

func TestGapIsWhatNextMade(t *testing.T) {
	for size := 1; size <= 30; size++ {
		for _, s := range positions(size) {
			for n := range size + 1 {
				checkThereAndBack(t, s, n, size)
			}
		}
	}
	for _, size := range sizes() {
		for _, wrap := range bools() {
			for _, slot := range slots(size) {
				for n := range size + 1 {
					checkThereAndBack(t, at(slot, wrap), n, size)
				}
			}
		}
	}
}

// Steps in two parts, of size together at most, require a notification if and
// only if one of the parts does, for every event's place, also outside the
// ring, and all Flags.
func TestPartsNeedWhatTheWholeNeeds(t *testing.T) {
	for size := 1; size <= 7; size++ {
		for _, from := range positions(size) {
			for n := range size + 1 {
				for m := range size + 1 - n {
					middle := next(t, from, n, size)
					checkParts(t, from, middle, next(t, middle, m, size), size)
				}
			}
		}
	}
}

func checkParts(t *testing.T, from, middle, to api.Spot, size int) {
	t.Helper()
	for off := -1; off <= size; off++ {
		for _, wrap := range bools() {
			for flags := range 4 {
				e := api.Event{Off: off, Wrap: wrap, Flags: flags}
				parts := spot.Need(e, from, middle, size) || spot.Need(e, middle, to, size)
				checkNeed(t, e, from, to, size, parts)
			}
		}
	}
}

// All size steps require a notification for exactly one of both Wraps of each
// slot, and of their single steps exactly one does.
func TestOneStepOfAllNeeds(t *testing.T) {
	for _, size := range []int{1, 2, 3, 4, 5, 16, 33, 1000} {
		for _, from := range []api.Spot{at(0, false), at(0, true), at(size/2, false), at(size-1, true)} {
			whole := next(t, from, size, size)
			for _, slot := range slots(size) {
				single := 0
				for _, wrap := range bools() {
					s := from
					for range size {
						to := next(t, s, 1, size)
						if spot.Need(of(at(slot, wrap)), s, to, size) {
							single++
						}
						s = to
					}
				}
				both := spot.Need(of(at(slot, false)), from, whole, size) && spot.Need(of(at(slot, true)), from, whole, size)
				if single != 1 || both {
					t.Errorf("size %d from %v, slot %d: %d single steps, both %v", size, from, slot, single, both)
				}
			}
		}
	}
}

// R5: earlier calls, those that return errors among them, make no difference.
func TestAgain(t *testing.T) {
	for range 3 {
		checkCheck(t, at(4, true), 4, api.ErrArg)
		checkNext(t, at(3, false), 2, 4, at(1, true))
		checkNoNext(t, at(3, false), 5, 4, api.ErrArg)
		checkGap(t, at(3, false), at(1, true), 4, 2)
		checkNoGap(t, at(3, false), at(1, true), 0, api.ErrSpotSize)
		checkParse(t, "\x34\x92\x02\x00", api.Event{Off: 0x1234, Wrap: true, Flags: 2})
		checkNoParse(t, "\x34\x92\x02")
		checkBuild(t, of(at(0x1234, true)), "\x34\x92\x02\x00")
		checkNoBuild(t, api.Event{Off: -1})
		checkNeed(t, of(at(0, true)), at(3, false), at(1, true), 4, true)
		checkNeed(t, of(at(0, false)), at(3, false), at(1, true), 4, false)
	}
}
