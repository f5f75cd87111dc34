package desc_test

import (
	"encoding/binary"
	"fmt"
	"math"
	"strings"
	"testing"

	"aqueduct/api"
	"aqueduct/desc"
)

// full has a different byte everywhere.
func full() api.Desc {
	return api.Desc{Addr: 0x8877665544332211, Len: 0xccbbaa99, Id: 0xeedd, Flags: 0x10ff}
}

const fullBytes = "\x11\x22\x33\x44\x55\x66\x77\x88\x99\xaa\xbb\xcc\xdd\xee\xff\x10"

// greatest has the greatest number in each field.
func greatest() api.Desc {
	return api.Desc{Addr: math.MaxUint64, Len: math.MaxUint32, Id: 65535, Flags: 65535}
}

var (
	noBytes  = strings.Repeat("\x00", 16)
	allBytes = strings.Repeat("\xff", 16)
)

// encoding is what Build is held against: the library's own encodings.
func encoding(d api.Desc) string {
	b := binary.LittleEndian.AppendUint64(nil, d.Addr)
	b = binary.LittleEndian.AppendUint32(b, d.Len)
	b = binary.LittleEndian.AppendUint16(b, uint16(d.Id))
	b = binary.LittleEndian.AppendUint16(b, uint16(d.Flags))
	return string(b)
}

// decoding is what Parse is held against: the library's own decodings.
func decoding(s string) api.Desc {
	b := []byte(s)
	return api.Desc{
		Addr:  binary.LittleEndian.Uint64(b),
		Len:   binary.LittleEndian.Uint32(b[8:]),
		Id:    int(binary.LittleEndian.Uint16(b[12:])),
		Flags: int(binary.LittleEndian.Uint16(b[14:])),
	}
}

// scattered has n bytes without a pattern.
func scattered(n int, seed uint32) string {
	b := make([]byte, n)
	for i := range b {
		seed = seed*1664525 + 1013904223
		b[i] = byte(seed >> 24)
	}
	return string(b)
}

// with is s with byte i replaced by c.
func with(s string, i int, c byte) string {
	b := []byte(s)
	b[i] = c
	return string(b)
}

// short is s as a message shows it.
func short(s string) string {
	if len(s) <= 40 {
		return fmt.Sprintf("%x", s)
	}
	return fmt.Sprintf("%x.. of %d bytes", s[:40], len(s))
}

// addrs and lens are numbers of eight and of four bytes: the least and the
// greatest ones, each bit and each byte alone, and such as show their order.
func addrs() []uint64 {
	all := []uint64{0, 1, 2, 0xff, 0x100, 0x0123456789abcdef, 0xfedcba9876543210, 0x8877665544332211, 1<<32 - 1, 1 << 32, 1<<63 - 1, 1 << 63, math.MaxUint64 - 1, math.MaxUint64}
	for bit := range 64 {
		all = append(all, 1<<bit, 0xa5<<bit, math.MaxUint64^1<<bit)
	}
	return all
}

func lens() []uint32 {
	all := []uint32{0, 1, 2, 0xff, 0x100, 0x01234567, 0xfedcba98, 0xccbbaa99, 65535, 65536, 1<<31 - 1, 1 << 31, math.MaxUint32 - 1, math.MaxUint32}
	for bit := range 32 {
		all = append(all, 1<<bit, 0xa5<<bit, math.MaxUint32^1<<bit)
	}
	return all
}

// wrongWords are numbers that two bytes don't hold: just outside, far outside,
// and such as would do if their last two bytes alone, or all but their sign,
// were looked at.
func wrongWords() []int {
	return []int{-1, -2, -128, -255, -256, -32768, -32769, -65535, -65536, -65537, math.MinInt32, math.MinInt + 1, math.MinInt, 65536, 65537, 65536 + 128, 131071, 1 << 17, 1 << 31, 1<<31 + 1, 1 << 32, 1<<32 + 7, 1<<62 + 2, math.MaxInt - 1, math.MaxInt}
}

// endWords are numbers at the ends of those that two bytes hold.
func endWords() []int { return []int{0, 1, 65534, 65535} }

func checkParse(t *testing.T, s string, want api.Desc) {
	t.Helper()
	if d, e := desc.Parse(s); d != want || e != api.OK {
		t.Errorf("Parse(%x): %v, %d, want %v", s, d, e, want)
	}
}

func checkNoParse(t *testing.T, s string) {
	t.Helper()
	if d, e := desc.Parse(s); d != (api.Desc{}) || e != api.ErrArg {
		t.Errorf("Parse(%s): %v, %d, want nothing and ErrArg", short(s), d, e)
	}
}

func checkBuild(t *testing.T, d api.Desc, want string) {
	t.Helper()
	if s, e := desc.Build(d); s != want || e != api.OK {
		t.Errorf("Build(%v): %x, %d, want %x", d, s, e, want)
	}
}

func checkNoBuild(t *testing.T, d api.Desc) {
	t.Helper()
	if s, e := desc.Build(d); s != "" || e != api.ErrArg {
		t.Errorf("Build(%v): %x, %d, want nothing and ErrArg", d, s, e)
	}
}

// state is what a descriptor's two bits say for a wrap.
type state struct{ avail, used bool }

// stateOf is what Avail and Used are held against: the chapter's words, with
// the two bits found by a division.
func stateOf(flags int, wrap bool) state {
	bit := func(weight int) bool { return flags/weight%2 == 1 }
	switch {
	case bit(128) && bit(32768):
		return state{used: wrap}
	case bit(128):
		return state{avail: wrap}
	case bit(32768):
		return state{avail: !wrap}
	}
	return state{used: !wrap}
}

// marked is what Mark is held against, for flags that Flags can have.
func marked(flags int, wrap, used bool) int {
	rest := flags - flags/128%2*128 - flags/32768%2*32768
	switch {
	case used && wrap:
		return rest + 128 + 32768
	case used:
		return rest
	case wrap:
		return rest + 128
	}
	return rest + 32768
}

func checkState(t *testing.T, flags int, wrap bool, want state) {
	t.Helper()
	if got := (state{desc.Avail(flags, wrap), desc.Used(flags, wrap)}); got != want {
		t.Errorf("Avail and Used(%#x, %v): %v, want %v", flags, wrap, got, want)
	}
}

func checkMark(t *testing.T, flags int, wrap, used bool, want int) {
	t.Helper()
	if got := desc.Mark(flags, wrap, used); got != want {
		t.Errorf("Mark(%#x, %v, %v): %#x, want %#x", flags, wrap, used, got, want)
	}
}

// bools are both settings of a wrap counter, or of used.
func bools() []bool { return []bool{false, true} }

// otherBits are the bits of two bytes beside the two that state something:
// none, each of them alone, all of them, and all but one.
func otherBits() []int {
	const others = 65535 - 128 - 32768
	all := []int{0, others}
	for bit := range 16 {
		if bit != 7 && bit != 15 {
			all = append(all, 1<<bit, others-1<<bit)
		}
	}
	return all
}

// P12.1

func TestParseExamples(t *testing.T) {
	checkParse(t, fullBytes, full())
	checkParse(t, "\x80\x00\x00\x00\x00\x00\x00\x00\x05\x00\x00\x00\x07\x00\x80\x00", api.Desc{Addr: 128, Len: 5, Id: 7, Flags: 128})
	checkParse(t, "abcdefghijklmnop", api.Desc{Addr: 0x6867666564636261, Len: 0x6c6b6a69, Id: 0x6e6d, Flags: 0x706f})
	checkParse(t, noBytes, api.Desc{})
	checkParse(t, allBytes, greatest())
}

// Each byte with each value, among zeros, ones and others.
func TestParseEveryByte(t *testing.T) {
	for i := range 16 {
		for c := range 256 {
			for _, s := range []string{noBytes, allBytes, fullBytes} {
				s = with(s, i, byte(c))
				checkParse(t, s, decoding(s))
			}
		}
	}
}

func TestParseScattered(t *testing.T) {
	for seed := range uint32(5000) {
		s := scattered(16, seed)
		checkParse(t, s, decoding(s))
	}
}

// Every other number of bytes, whatever they are; also those of descriptors
// that follow each other.
func TestParseWrongSizes(t *testing.T) {
	for _, n := range []int{255, 256, 272, 1024, 65535, 65536, 65536 + 16, 1 << 20, 1<<20 + 16} {
		checkNoParse(t, scattered(n, 1))
	}
	for n := range 70 {
		if n == 16 {
			continue
		}
		checkNoParse(t, strings.Repeat("\x00", n))
		checkNoParse(t, strings.Repeat("\xff", n))
		checkNoParse(t, scattered(n, 2))
	}
	for n := range 16 {
		checkNoParse(t, fullBytes[:n])
		checkNoParse(t, fullBytes[16-n:])
	}
	checkNoParse(t, fullBytes+"\x00")
	checkNoParse(t, "\x00"+fullBytes)
	checkNoParse(t, fullBytes+fullBytes)
}

// Bytes are counted, not runes.
func TestParseCountsBytes(t *testing.T) {
	checkNoParse(t, strings.Repeat("\u00e9", 16))
	s := strings.Repeat("\u00e9", 8)
	checkParse(t, s, decoding(s))
}

func TestBuildExamples(t *testing.T) {
	checkBuild(t, full(), fullBytes)
	checkBuild(t, api.Desc{Addr: 128, Len: 5, Id: 7, Flags: 128}, "\x80\x00\x00\x00\x00\x00\x00\x00\x05\x00\x00\x00\x07\x00\x80\x00")
	checkBuild(t, api.Desc{Addr: 1 << 16, Len: 1 << 8, Id: 1 << 8, Flags: api.DescNext | api.DescWrite | api.DescUsed}, "\x00\x00\x01\x00\x00\x00\x00\x00\x00\x01\x00\x00\x00\x01\x03\x80")
	checkBuild(t, api.Desc{}, noBytes)
	checkBuild(t, greatest(), allBytes)
}

// Each field alone has its own bytes, and no other ones.
func TestBuildPlaces(t *testing.T) {
	checkBuild(t, api.Desc{Addr: math.MaxUint64}, allBytes[:8]+noBytes[:8])
	checkBuild(t, api.Desc{Len: math.MaxUint32}, noBytes[:8]+allBytes[:4]+noBytes[:4])
	checkBuild(t, api.Desc{Id: 65535}, noBytes[:12]+allBytes[:2]+noBytes[:2])
	checkBuild(t, api.Desc{Flags: 65535}, noBytes[:14]+allBytes[:2])
	checkBuild(t, api.Desc{Addr: 0x0102030405060708}, "\x08\x07\x06\x05\x04\x03\x02\x01"+noBytes[:8])
	checkBuild(t, api.Desc{Len: 0x01020304}, noBytes[:8]+"\x04\x03\x02\x01"+noBytes[:4])
	checkBuild(t, api.Desc{Id: 0x0102}, noBytes[:12]+"\x02\x01"+noBytes[:2])
	checkBuild(t, api.Desc{Flags: 0x0102}, noBytes[:14]+"\x02\x01")
}

func TestBuildAddrAndLen(t *testing.T) {
	for _, d := range []api.Desc{{}, full(), greatest()} {
		for _, a := range addrs() {
			for _, n := range lens() {
				d.Addr, d.Len = a, n
				checkBuild(t, d, encoding(d))
			}
		}
	}
}

// Every number of two bytes in Id and in Flags.
func TestBuildWords(t *testing.T) {
	for v := range 1 << 16 {
		for _, d := range []api.Desc{{Id: v}, {Flags: v}, {Addr: 1<<64 - 1, Len: 1<<32 - 1, Id: v, Flags: 65535 - v}} {
			checkBuild(t, d, encoding(d))
		}
	}
	for _, id := range endWords() {
		for _, flags := range endWords() {
			d := full()
			d.Id, d.Flags = id, flags
			checkBuild(t, d, encoding(d))
		}
	}
}

// A number that two bytes don't hold, in Id, in Flags and in both: neither a
// right one beside it nor another wrong one makes up for it, whatever Addr and
// Len are.
func TestBuildWrong(t *testing.T) {
	for _, d := range []api.Desc{{}, full(), greatest()} {
		for _, wrong := range wrongWords() {
			for _, right := range append(endWords(), 0x1234, 128) {
				d.Id, d.Flags = wrong, right
				checkNoBuild(t, d)
				d.Id, d.Flags = right, wrong
				checkNoBuild(t, d)
			}
			for _, other := range wrongWords() {
				d.Id, d.Flags = wrong, other
				checkNoBuild(t, d)
			}
		}
	}
}

// P12.2

func TestAvailAndUsedExamples(t *testing.T) {
	for _, x := range []struct {
		flags int
		wrap  bool
		want  state
	}{
		{0, true, state{}},
		{0, false, state{used: true}},
		{128, true, state{avail: true}},
		{128, false, state{}},
		{32768, true, state{}},
		{32768, false, state{avail: true}},
		{32896, true, state{used: true}},
		{32896, false, state{}},
		{65535, true, state{used: true}},
		{65535, false, state{}},
		{api.DescNext | api.DescAvail, true, state{avail: true}},
		{api.DescWrite | api.DescUsed, false, state{avail: true}},
		{api.DescIndirect, false, state{used: true}},
		// Bits beside the two state nothing, of whatever weight.
		{64, true, state{}},
		{256, true, state{}},
		{16384, false, state{used: true}},
		{127, false, state{used: true}},
		{32767, true, state{avail: true}},
	} {
		checkState(t, x.flags, x.wrap, x.want)
	}
}

// The four settings of the two bits, with the other bits.
func TestAvailAndUsedSettings(t *testing.T) {
	for _, other := range otherBits() {
		checkState(t, other, true, state{})
		checkState(t, other, false, state{used: true})
		checkState(t, other|1<<7, true, state{avail: true})
		checkState(t, other|1<<7, false, state{})
		checkState(t, other|1<<15, true, state{})
		checkState(t, other|1<<15, false, state{avail: true})
		checkState(t, other|1<<7|1<<15, true, state{used: true})
		checkState(t, other|1<<7|1<<15, false, state{})
	}
}

func TestAvailAndUsedEverywhere(t *testing.T) {
	for flags := range 1 << 16 {
		for _, wrap := range bools() {
			checkState(t, flags, wrap, stateOf(flags, wrap))
		}
	}
}

func TestMarkExamples(t *testing.T) {
	checkMark(t, 0, true, false, 128)
	checkMark(t, 0, false, false, 32768)
	checkMark(t, 3, true, true, 32899)
	checkMark(t, 0, true, true, 32896)
	checkMark(t, 0, false, true, 0)
	checkMark(t, 0, true, false, api.DescAvail)
	checkMark(t, 0, false, false, api.DescUsed)
	checkMark(t, 0, true, true, api.DescAvail|api.DescUsed)
	checkMark(t, 65535, true, false, 32767)
	checkMark(t, 65535, false, false, 65407)
	checkMark(t, 65535, true, true, 65535)
	checkMark(t, 65535, false, true, 32639)
	checkMark(t, api.DescWrite, true, true, 32898)
	checkMark(t, api.DescNext|api.DescWrite|api.DescAvail, false, true, 3)
}

// The four settings of the two bits make no difference, and the other bits are
// as they were.
func TestMarkSettings(t *testing.T) {
	for _, other := range otherBits() {
		for _, set := range []int{0, 1 << 7, 1 << 15, 1<<7 | 1<<15} {
			checkMark(t, other|set, true, false, other|1<<7)
			checkMark(t, other|set, false, false, other|1<<15)
			checkMark(t, other|set, true, true, other|1<<7|1<<15)
			checkMark(t, other|set, false, true, other)
		}
	}
}

func TestMarkEverywhere(t *testing.T) {
	for flags := range 1 << 16 {
		for _, wrap := range bools() {
			for _, used := range bools() {
				checkMark(t, flags, wrap, used, marked(flags, wrap, used))
			}
		}
	}
}

// Numbers that Flags can't have state by the same two bits, and keep all of
// their other ones.
func TestFlagsOfMoreBits(t *testing.T) {
	for _, more := range []int{1 << 16, 1 << 23, 1 << 31, 1 << 32, 1 << 62, math.MaxInt &^ 65535, math.MinInt, -65536, math.MinInt | 1<<16} {
		for _, flags := range append(otherBits(), 1<<7, 1<<15, 1<<7|1<<15, 65535) {
			for _, wrap := range bools() {
				checkState(t, more|flags, wrap, stateOf(flags, wrap))
				for _, used := range bools() {
					checkMark(t, more|flags, wrap, used, more|marked(flags, wrap, used))
				}
			}
		}
	}
}

// P12.3

func checkBuiltIsParsed(t *testing.T, d api.Desc) {
	t.Helper()
	s, e := desc.Build(d)
	if len(s) != 16 || e != api.OK {
		t.Errorf("Build(%v): %x, %d", d, s, e)
	}
	checkParse(t, s, d)
}

func TestBuiltIsParsed(t *testing.T) {
	for _, d := range []api.Desc{{}, full(), greatest()} {
		checkBuiltIsParsed(t, d)
		for _, a := range addrs() {
			checkBuiltIsParsed(t, api.Desc{Addr: a, Len: d.Len, Id: d.Id, Flags: d.Flags})
		}
		for _, n := range lens() {
			checkBuiltIsParsed(t, api.Desc{Addr: d.Addr, Len: n, Id: d.Id, Flags: d.Flags})
		}
		for v := range 1 << 16 {
			checkBuiltIsParsed(t, api.Desc{Addr: d.Addr, Len: d.Len, Id: v, Flags: d.Flags})
			checkBuiltIsParsed(t, api.Desc{Addr: d.Addr, Len: d.Len, Id: d.Id, Flags: v})
		}
	}
}

// All fields at their ends at once, in every combination.
func TestBuiltIsParsedAtEnds(t *testing.T) {
	for _, a := range []uint64{0, 1, 1<<64 - 2, 1<<64 - 1} {
		for _, n := range []uint32{0, 1, 1<<32 - 2, 1<<32 - 1} {
			for _, id := range endWords() {
				for _, flags := range endWords() {
					checkBuiltIsParsed(t, api.Desc{Addr: a, Len: n, Id: id, Flags: flags})
				}
			}
		}
	}
}

func checkParsedIsBuilt(t *testing.T, s string) {
	t.Helper()
	d, e := desc.Parse(s)
	if e != api.OK {
		t.Errorf("Parse(%x): %d", s, e)
	}
	checkBuild(t, d, s)
}

func TestParsedIsBuilt(t *testing.T) {
	for seed := range uint32(5000) {
		checkParsedIsBuilt(t, scattered(16, seed))
	}
	for _, s := range []string{noBytes, allBytes, fullBytes} {
		for i := range 16 {
			for c := range 256 {
				checkParsedIsBuilt(t, with(s, i, byte(c)))
			}
		}
	}
}

// What is marked is in that state for its wrap, and in none for the other.
func TestMarkedIsSo(t *testing.T) {
	for flags := range 1 << 16 {
		for _, wrap := range bools() {
			for _, used := range bools() {
				v := desc.Mark(flags, wrap, used)
				checkState(t, v, wrap, state{avail: !used, used: used})
				checkState(t, v, !wrap, state{})
				if (v^flags)&^(1<<7|1<<15) != 0 {
					t.Errorf("Mark(%#x, %v, %v): %#x: other bits changed", flags, wrap, used, v)
				}
				checkMark(t, v, wrap, used, v)
			}
		}
	}
}

// No flags are available and used at once, and each are so for one wrap.
func TestOneStateEach(t *testing.T) {
	for flags := range 1 << 16 {
		states := 0
		for _, wrap := range bools() {
			for _, is := range []bool{desc.Avail(flags, wrap), desc.Used(flags, wrap)} {
				if is {
					states++
				}
			}
		}
		if states != 1 {
			t.Errorf("%#x: %d states", flags, states)
		}
	}
}

// Marked flags can be built, and are in the same state when they are parsed.
func TestMarkedIsBuilt(t *testing.T) {
	for _, other := range otherBits() {
		for _, wrap := range bools() {
			for _, used := range bools() {
				d := full()
				d.Flags = desc.Mark(other, wrap, used)
				s, _ := desc.Build(d)
				parsed, e := desc.Parse(s)
				if e != api.OK {
					t.Fatalf("Parse(%x): %d", s, e)
				}
				checkState(t, parsed.Flags, wrap, state{avail: !used, used: used})
			}
		}
	}
}

// R5: earlier calls, those that return errors among them, make no difference.
func TestAgain(t *testing.T) {
	for range 3 {
		checkBuild(t, full(), fullBytes)
		checkNoBuild(t, api.Desc{Id: -1})
		checkParse(t, fullBytes, full())
		checkNoParse(t, fullBytes[:15])
		checkState(t, 128, true, state{avail: true})
		checkState(t, 128, false, state{})
		checkMark(t, 3, true, true, 32899)
	}
}
