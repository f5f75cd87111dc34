package nethdr_test

import (
	"encoding/binary"
	"fmt"
	"math"
	"strings"
	"testing"

	"aqueduct/api"
	"aqueduct/eth"
	"aqueduct/ip"
	"aqueduct/nethdr"
	"aqueduct/segment"
)

const (
	macs = "\x02\x61\x71\x00\x00\x05\x12\x34\x56\x78\x9a\xbc"
	src4 = "\x0a\x00\x00\x01"
	dst4 = "\x0a\x00\x00\x02"
	src6 = "\x20\x01\x0d\xb8\x00\x00\x00\x00\x00\x00\x00\x00\x00\x00\x00\x01"
	dst6 = "\xfe\x80\x00\x00\x00\x00\x00\x00\x02\x61\x71\xff\xfe\x00\x00\x05"

	maxFrame = 1518
)

// full has a different number in each field, and a different byte in each half.
func full() api.Hdr {
	return api.Hdr{Flags: 3, Gso: 0x9a, Len: 0x1234, Size: 0x5678, Start: 0xbcde, Offset: 0xf013, Count: 0x5792}
}

const fullBytes = "\x03\x9a\x34\x12\x78\x56\xde\xbc\x13\xf0\x92\x57"

// field is one of a header: how it is set, where its bytes are, how many there
// are, and the greatest number that it may have.
type field struct {
	name     string
	set      func(h *api.Hdr, v int)
	at, size int
	most     int
}

func fields() []field {
	return []field{
		{"Flags", func(h *api.Hdr, v int) { h.Flags = v }, 0, 1, 3},
		{"Gso", func(h *api.Hdr, v int) { h.Gso = v }, 1, 1, 255},
		{"Len", func(h *api.Hdr, v int) { h.Len = v }, 2, 2, 65535},
		{"Size", func(h *api.Hdr, v int) { h.Size = v }, 4, 2, 65535},
		{"Start", func(h *api.Hdr, v int) { h.Start = v }, 6, 2, 65535},
		{"Offset", func(h *api.Hdr, v int) { h.Offset = v }, 8, 2, 65535},
		{"Count", func(h *api.Hdr, v int) { h.Count = v }, 10, 2, 65535},
	}
}

// little has the n bytes of v, the least significant one first.
func little(v, n int) string {
	return string(binary.LittleEndian.AppendUint64(nil, uint64(v))[:n])
}

// word and long have the bytes of a number, the most significant one first.
func word(v int) string { return string(binary.BigEndian.AppendUint16(nil, uint16(v))) }

func long(v int) string { return string(binary.BigEndian.AppendUint32(nil, uint32(v))) }

func one(v int) string { return string([]byte{byte(v)}) }

// scattered has n bytes without a pattern.
func scattered(n int, seed uint32) string {
	b := make([]byte, n)
	for i := range b {
		seed = seed*1664525 + 1013904223
		b[i] = byte(seed >> 24)
	}
	return string(b)
}

// with is s with other bytes from offset at on.
func with(s string, at int, other string) string { return s[:at] + other + s[at+len(other):] }

// short is s as a message shows it.
func short(s string) string {
	if len(s) <= 100 {
		return fmt.Sprintf("%x", s)
	}
	return fmt.Sprintf("%x.. of %d bytes", s[:100], len(s))
}

// folded is the one's complement sum of the words of s, by a division.
func folded(s string) int {
	n := 0
	for i := range len(s) {
		n += int(s[i]) << (8 * (1 - i%2))
	}
	if n == 0 {
		return 0
	}
	return (n-1)%65535 + 1
}

// sumOf is the checksum of s where 0 is not one.
func sumOf(s string) int {
	if sum := 65535 - folded(s); sum != 0 {
		return sum
	}
	return 65535
}

func checkParse(t *testing.T, s string, want api.Hdr, rest string) {
	t.Helper()
	if h, r, e := nethdr.Parse(s); h != want || r != rest || e != api.OK {
		t.Errorf("Parse(%s): %v, %s, %d, want %v, %s", short(s), h, short(r), e, want, short(rest))
	}
}

func checkNoParse(t *testing.T, s string, want api.Errno) {
	t.Helper()
	if h, r, e := nethdr.Parse(s); h != (api.Hdr{}) || r != "" || e != want {
		t.Errorf("Parse(%s): %v, %s, %d, want nothing and %d", short(s), h, short(r), e, want)
	}
}

func checkBuild(t *testing.T, h api.Hdr, want string) {
	t.Helper()
	if s, e := nethdr.Build(h); s != want || e != api.OK {
		t.Errorf("Build(%v): %x, %d, want %x", h, s, e, want)
	}
}

func checkNoBuild(t *testing.T, h api.Hdr) {
	t.Helper()
	if s, e := nethdr.Build(h); s != "" || e != api.ErrHdrForm {
		t.Errorf("Build(%v): %x, %d, want nothing and an error", h, s, e)
	}
}

func checkFinish(t *testing.T, h api.Hdr, s, want string) {
	t.Helper()
	if u, e := nethdr.Finish(h, s); u != want || e != api.OK {
		t.Errorf("Finish(%v, %s): %s, %d, want %s", h, short(s), short(u), e, short(want))
	}
}

func checkNoFinish(t *testing.T, h api.Hdr, s string, want api.Errno) {
	t.Helper()
	if u, e := nethdr.Finish(h, s); u != "" || e != want {
		t.Errorf("Finish(%v, %s): %s, %d, want nothing and %d", h, short(s), short(u), e, want)
	}
}

func checkOffload(t *testing.T, s string, want api.Hdr, left string) {
	t.Helper()
	if h, u := nethdr.Offload(s); h != want || u != left {
		t.Errorf("Offload(%s): %v, %s, want %v, %s", short(s), h, short(u), want, short(left))
	}
}

// checkAsIs asks for the zero header, and s as it is.
func checkAsIs(t *testing.T, s string) {
	t.Helper()
	checkOffload(t, s, api.Hdr{}, s)
}

// P10.1

func TestParseHeader(t *testing.T) {
	checkParse(t, fullBytes, full(), "")
	checkParse(t, "\x01\x00\x00\x00\x00\x00\x22\x00\x06\x00\x00\x00", api.Hdr{Flags: 1, Start: 34, Offset: 6}, "")
	checkParse(t, strings.Repeat("\x00", 12), api.Hdr{}, "")
	checkParse(t, "\x03"+strings.Repeat("\xff", 11), api.Hdr{Flags: 3, Gso: 255, Len: 65535, Size: 65535, Start: 65535, Offset: 65535, Count: 65535}, "")
}

// Strings that end ahead of the header's end, whatever is in them; Flags that
// are not valid don't matter there.
func TestParseShort(t *testing.T) {
	for n := range 12 {
		checkNoParse(t, fullBytes[:n], api.ErrHdrShort)
		checkNoParse(t, strings.Repeat("\x00", n), api.ErrHdrShort)
		checkNoParse(t, strings.Repeat("\xff", n), api.ErrHdrShort)
		checkNoParse(t, strings.Repeat("\x04", n), api.ErrHdrShort)
	}
}

// What follows the header is handed back as it is, also if it looks like one.
func TestParseRest(t *testing.T) {
	for _, rest := range []string{"", "\x00", "x", "xy", "\xff", fullBytes, strings.Repeat("\x00", 12), strings.Repeat("\xff", 12), scattered(1518, 1), scattered(65536, 2), scattered(1<<20, 3)} {
		checkParse(t, fullBytes+rest, full(), rest)
		checkParse(t, strings.Repeat("\x00", 12)+rest, api.Hdr{}, rest)
		checkNoParse(t, "\x04"+fullBytes[1:]+rest, api.ErrHdrForm)
	}
}

func TestParseFlags(t *testing.T) {
	for v := range 256 {
		for _, tail := range []string{fullBytes[1:], strings.Repeat("\x00", 11), strings.Repeat("\xff", 11), fullBytes[1:] + "more"} {
			s := one(v) + tail
			if v > 3 {
				checkNoParse(t, s, api.ErrHdrForm)
				continue
			}
			h, _, e := nethdr.Parse(s)
			if h.Flags != v || e != api.OK {
				t.Errorf("Flags %d: %v, %d", v, h, e)
			}
		}
	}
}

// Each field at every number of a byte, and at the edges of two, in a header of
// zeros and in one that has other numbers everywhere.
func TestParseFields(t *testing.T) {
	for _, f := range fields() {
		for _, v := range numbers(f.most) {
			h := api.Hdr{}
			f.set(&h, v)
			checkParse(t, with(strings.Repeat("\x00", 12), f.at, little(v, f.size)), h, "")
			h = full()
			f.set(&h, v)
			checkParse(t, with(fullBytes, f.at, little(v, f.size))+"rest", h, "rest")
		}
	}
}

// numbers are some from 0 to most, all edges of bytes among them.
func numbers(most int) []int {
	var all []int
	for v := range min(most, 300) + 1 {
		all = append(all, v)
	}
	for _, v := range []int{0x1234, 0x7fff, 0x8000, 0xff00, 0xfffe, most - 1, most} {
		if v <= most {
			all = append(all, v)
		}
	}
	return all
}

func TestBuildExample(t *testing.T) {
	checkBuild(t, api.Hdr{Flags: 1, Start: 34, Offset: 6}, "\x01\x00\x00\x00\x00\x00\x22\x00\x06\x00\x00\x00")
	checkBuild(t, api.Hdr{}, strings.Repeat("\x00", 12))
	checkBuild(t, full(), fullBytes)
	checkBuild(t, api.Hdr{Flags: 3, Gso: 255, Len: 65535, Size: 65535, Start: 65535, Offset: 65535, Count: 65535}, "\x03"+strings.Repeat("\xff", 11))
}

func TestBuildFlags(t *testing.T) {
	for v := range 4 {
		checkBuild(t, api.Hdr{Flags: v}, one(v)+strings.Repeat("\x00", 11))
	}
	for _, v := range []int{4, 5, 7, 8, 128, 255, 256, 257, 65536 + 1, 1<<32 + 1, 1<<62 + 3, math.MaxInt, -1, -2, -4, -255, -256, math.MinInt, math.MinInt + 1} {
		checkNoBuild(t, api.Hdr{Flags: v})
	}
}

func TestBuildFields(t *testing.T) {
	for _, f := range fields() {
		for _, v := range numbers(f.most) {
			h := api.Hdr{}
			f.set(&h, v)
			checkBuild(t, h, with(strings.Repeat("\x00", 12), f.at, little(v, f.size)))
			h = full()
			f.set(&h, v)
			checkBuild(t, h, with(fullBytes, f.at, little(v, f.size)))
		}
	}
}

// Numbers just outside of each field, far outside, and such as would be valid
// if only their last bytes were looked at.
func TestBuildWrong(t *testing.T) {
	for _, f := range fields() {
		for _, v := range []int{f.most + 1, f.most + 2, 2*f.most + 1, 65536, 65537, 1 << 31, 1 << 32, 1<<32 + 1, 1<<62 + 2, math.MaxInt - 1, math.MaxInt, -1, -2, -128, -255, -256, -65535, -65536, math.MinInt32, math.MinInt + 1, math.MinInt} {
			for _, h := range []api.Hdr{{}, full()} {
				f.set(&h, v)
				checkNoBuild(t, h)
			}
		}
	}
}

// Several wrong fields at once don't make up for each other.
func TestBuildSeveralWrong(t *testing.T) {
	for _, f := range fields() {
		for _, g := range fields() {
			h := full()
			f.set(&h, -1)
			g.set(&h, g.most+1)
			checkNoBuild(t, h)
		}
	}
}

// P10.2

// completed is what Finish is held against: s with the checksum of its bytes
// from start on, at this offset from there, if there is room for it.
func completed(s string, start, offset int) (string, bool) {
	if start < 0 || start > len(s) || offset < 0 || offset > len(s)-start-2 {
		return "", false
	}
	return with(s, start+offset, word(sumOf(s[start:]))), true
}

// checkPlace holds Finish at this place, with every Flags, against completed.
func checkPlace(t *testing.T, s string, start, offset int) {
	t.Helper()
	want, ok := completed(s, start, offset)
	if _, e := segment.Complete(s, start, offset); ok != (e == api.OK) {
		t.Fatalf("%s, %d, %d: %d", short(s), start, offset, e)
	}
	for _, flags := range []int{1, 3, 5, 255, -1, math.MaxInt, math.MinInt + 1} {
		h := api.Hdr{Flags: flags, Start: start, Offset: offset}
		if ok {
			checkFinish(t, h, s, want)
		} else {
			checkNoFinish(t, h, s, api.ErrHdrPlace)
		}
	}
	for _, flags := range []int{0, 2, 4, 254, -2, math.MaxInt - 1, math.MinInt} {
		checkFinish(t, api.Hdr{Flags: flags, Start: start, Offset: offset}, s, s)
	}
}

func TestFinishExample(t *testing.T) {
	// Chapter 8's example: UDP from port 1 to port 2 with hi.
	left := "\x00\x01\x00\x02\x00\x0a\x14\x1ehi"
	whole := "\x00\x01\x00\x02\x00\x0a\x83\x6bhi"
	checkFinish(t, api.Hdr{Flags: 1, Offset: 6}, left, whole)
	checkFinish(t, api.Hdr{Flags: 3, Offset: 6}, left, whole)
	checkFinish(t, api.Hdr{Flags: 1, Start: 5, Offset: 6}, "ahead"+left, "ahead"+whole)
	for _, flags := range []int{0, 2} {
		checkFinish(t, api.Hdr{Flags: flags, Offset: 6}, left, left)
	}
}

// Gso is reported ahead of everything, whatever Flags, the place and s are.
func TestFinishGso(t *testing.T) {
	for _, gso := range []int{1, 2, 3, 4, 127, 128, 255, 256, 65536, 1 << 32, math.MaxInt, -1, -256, math.MinInt} {
		for _, flags := range []int{0, 1, 2, 3, 4, 5, 255, -1, -2} {
			for _, s := range []string{"", "a", "abcd", scattered(100, 1)} {
				for _, place := range []int{0, 1, 200, -1} {
					checkNoFinish(t, api.Hdr{Flags: flags, Gso: gso, Start: place, Offset: place}, s, api.ErrHdrForm)
				}
			}
		}
	}
}

func TestFinishEmpty(t *testing.T) {
	for _, start := range []int{-1, 0, 1, 2, math.MinInt, math.MaxInt} {
		for _, offset := range []int{-2, -1, 0, 1, math.MinInt, math.MaxInt} {
			checkPlace(t, "", start, offset)
			checkNoFinish(t, api.Hdr{Flags: 1, Start: start, Offset: offset}, "", api.ErrHdrPlace)
			checkFinish(t, api.Hdr{Start: start, Offset: offset}, "", "")
		}
	}
}

// Every place in short strings and around them.
func TestFinishPlaces(t *testing.T) {
	for n := range 12 {
		for _, s := range []string{scattered(n, uint32(n)), strings.Repeat("\x00", n), strings.Repeat("\xff", n)} {
			for start := -3; start <= n+3; start++ {
				for offset := -3; offset <= n+3; offset++ {
					checkPlace(t, s, start, offset)
				}
			}
		}
	}
}

// The edges of longer strings, and numbers whose sum overflows.
func TestFinishEdges(t *testing.T) {
	for _, n := range []int{14, 15, 64, 1517, 1518, 1519, 65535, 70001} {
		s := scattered(n, uint32(n))
		edges := []int{math.MinInt, math.MinInt + 1, math.MinInt + n, -n, -2, -1, 0, 1, n/2 - 1, n / 2, n - n/2 - 2, n - n/2 - 1, n - 3, n - 2, n - 1, n, n + 1, 1 << 16, 1 << 32, math.MaxInt - n, math.MaxInt - 1, math.MaxInt}
		for _, start := range edges {
			for _, offset := range edges {
				checkPlace(t, s, start, offset)
			}
		}
	}
}

// The last place in s is right, the next one is not, for every start.
func TestFinishLastPlace(t *testing.T) {
	s := scattered(80, 4)
	for start := range 79 {
		last := 78 - start
		want, _ := completed(s, start, last)
		checkFinish(t, api.Hdr{Flags: 1, Start: start, Offset: last}, s, want)
		checkNoFinish(t, api.Hdr{Flags: 1, Start: start, Offset: last + 1}, s, api.ErrHdrPlace)
		checkNoFinish(t, api.Hdr{Flags: 1, Start: start + 1, Offset: last}, s, api.ErrHdrPlace)
	}
}

// Where the checksum comes out as 0, there is 65535; where there are only
// zeros, it is 65535 by itself.
func TestFinishZero(t *testing.T) {
	for n := 2; n < 40; n++ {
		for start := 0; start <= n-2; start++ {
			s := with(scattered(n, uint32(n)), start, "\x00\x00")
			s = with(s, start, word(65535-folded(s[start:])))
			if folded(s[start:]) != 65535 {
				t.Fatalf("%x from %d on: %d", s, start, folded(s[start:]))
			}
			for offset := 0; offset <= n-2-start; offset++ {
				checkFinish(t, api.Hdr{Flags: 1, Start: start, Offset: offset}, s, with(s, start+offset, "\xff\xff"))
			}
		}
	}
	checkFinish(t, api.Hdr{Flags: 1}, "\xff\xff", "\xff\xff")
	checkFinish(t, api.Hdr{Flags: 1}, "\x00\x00", "\xff\xff")
	checkFinish(t, api.Hdr{Flags: 1}, "\x00\x01", "\xff\xfe")
}

// The other fields make no difference, valid or not.
func TestFinishOtherFields(t *testing.T) {
	s := scattered(60, 5)
	want, _ := completed(s, 34, 6)
	for _, v := range []int{0, 1, 12, 65535, 65536, -1, math.MinInt, math.MaxInt} {
		for _, h := range []api.Hdr{{Len: v}, {Size: v}, {Count: v}, {Len: v, Size: v, Count: v}} {
			checkFinish(t, h, s, s)
			h.Flags, h.Start, h.Offset = 1, 34, 6
			checkFinish(t, h, s, want)
			h.Start = 60
			checkNoFinish(t, h, s, api.ErrHdrPlace)
		}
	}
}

// P10.3

// tcp4 to udp6 are packets that can carry a segment.
func tcp4() api.Ip {
	return api.Ip{V: 4, Src: src4, Dst: dst4, Proto: 6, Hops: 64, Class: 0xb8, Id: 0x1717}
}
func udp4() api.Ip { return api.Ip{V: 4, Src: src4, Dst: dst4, Proto: 17, Hops: 64, Flags: 2} }
func tcp6() api.Ip {
	return api.Ip{V: 6, Src: src6, Dst: dst6, Proto: 6, Hops: 64, Class: 0xb8, Label: 0x54321}
}
func udp6() api.Ip { return api.Ip{V: 6, Src: src6, Dst: dst6, Proto: 17, Hops: 64} }

func carriers() []api.Ip { return []api.Ip{tcp4(), udp4(), tcp6(), udp6()} }

// headSum is a packet of version 4 with the right checksum of a header of so
// many bytes.
func headSum(s string, size int) string {
	s = with(s, 10, "\x00\x00")
	return with(s, 10, word(65535-folded(s[:size])))
}

// packetBytes has the bytes of a valid packet.
func packetBytes(p api.Ip) string {
	if p.V == 6 {
		return long(6<<28+p.Class<<20+p.Label) + word(len(p.Body)) + one(p.Proto) + one(p.Hops) + p.Src + p.Dst + p.Body
	}
	size := 20 + len(p.Options)
	s := one(64+size/4) + one(p.Class) + word(size+len(p.Body)) + word(p.Id) + word(p.Flags*8192+p.Off)
	return headSum(s+one(p.Hops)+one(p.Proto)+"\x00\x00"+p.Src+p.Dst+p.Options+p.Body, size)
}

// pseudo is the pseudo header of the segment in p.
func pseudo(p api.Ip) string {
	if p.V == 4 {
		return p.Src + p.Dst + "\x00" + one(p.Proto) + word(len(p.Body))
	}
	return p.Src + p.Dst + long(len(p.Body)) + "\x00\x00\x00" + one(p.Proto)
}

func placeOf(p api.Ip) int { return map[int]int{6: 16, 17: 6}[p.Proto] }

// blankBytes has the bytes of a segment that p is to carry, with 0 in the place
// of the checksum.
func blankBytes(p api.Ip, g api.Seg) string {
	if p.Proto == 17 {
		return word(g.Src) + word(g.Dst) + word(8+len(g.Body)) + "\x00\x00" + g.Body
	}
	return word(g.Src) + word(g.Dst) + long(int(g.Seq)) + long(int(g.Ack)) + one((5+len(g.Options)/4)*16) + one(g.Flags) + word(g.Win) + "\x00\x00" + word(g.Urgent) + g.Options + g.Body
}

// carrying is p with the segment g, and its checksum unless it has NoSum.
func carrying(p api.Ip, g api.Seg) api.Ip {
	p.Body = blankBytes(p, g)
	if !g.NoSum {
		p.Body = with(p.Body, placeOf(p), word(sumOf(pseudo(p)+p.Body)))
	}
	return p
}

// having is p with these bytes as its body.
func having(p api.Ip, s string) api.Ip {
	p.Body = s
	return p
}

func typeOf(v int) int { return map[int]int{4: 0x0800, 6: 0x86dd}[v] }

// framed has the bytes of a frame without a tag, of this type.
func framed(frameType int, body string) string { return macs + word(frameType) + body }

// frameBytes has the bytes of a frame of p's type, without a tag.
func frameBytes(p api.Ip) string { return framed(typeOf(p.V), packetBytes(p)) }

// tagged is a frame with a tag whose number is v, where it had none.
func tagged(s string, v int) string { return s[:12] + "\x81\x00" + word(v) + s[12:] }

// tags are numbers of valid tags: of the VLANs at the edges, and of such as
// look like types, with several priorities.
func tags() []int {
	var all []int
	for _, vlan := range []int{0, 1, 5, 0x800, 0x6dd, 4094} {
		for _, pri := range []int{0, 3, 7} {
			all = append(all, pri<<13|vlan)
		}
	}
	return all
}

// sample is a segment of p's kind with all of its fields.
func sample(p api.Ip) api.Seg {
	if p.Proto == 17 {
		return api.Seg{Src: 0x1234, Dst: 0x5678, Body: "hello"}
	}
	return api.Seg{Src: 0x1234, Dst: 0x5678, Seq: 0x9abcdef0, Ack: 0x13579bdf, Flags: 0x52, Win: 0x2468, Urgent: 0xace1, Options: "\x02\x04\x05\xb4", Body: "hello"}
}

// samples are packets of both versions with segments of both kinds.
func samples() []api.Ip {
	var all []api.Ip
	for _, p := range carriers() {
		all = append(all, carrying(p, sample(p)))
	}
	return all
}

// wantLeft is what Offload is held against, for a frame whose packet is p, which
// carries a segment with a checksum.
func wantLeft(s string, p api.Ip) (api.Hdr, string) {
	start := 14
	if s[12:14] == "\x81\x00" {
		start += 4
	}
	start += map[int]int{4: 20 + len(p.Options), 6: 40}[p.V]
	h := api.Hdr{Flags: 1, Start: start, Offset: placeOf(p)}
	return h, with(s, start+placeOf(p), word(folded(pseudo(p))))
}

// checkLeft asks for what is left of p's frame, without a tag and with one.
func checkLeft(t *testing.T, p api.Ip) {
	t.Helper()
	for _, s := range []string{frameBytes(p), tagged(frameBytes(p), 0xa005)} {
		h, left := wantLeft(s, p)
		checkOffload(t, s, h, left)
	}
}

// checkNotLeft asks for p's frame as it is, without a tag and with one.
func checkNotLeft(t *testing.T, p api.Ip) {
	t.Helper()
	checkAsIs(t, frameBytes(p))
	checkAsIs(t, tagged(frameBytes(p), 0xa005))
}

// segments are such as p may carry, with a checksum.
func segments(p api.Ip) []api.Seg {
	var all []api.Seg
	options := []string{""}
	if p.Proto == 6 {
		options = append(options, "\x01\x01\x01\x00", scattered(20, 1), scattered(40, 2))
	}
	for i, body := range []string{"", "\x00", "h", "hi", "\x00\x00", "\xff\xff", "hello", scattered(20, 3), scattered(21, 4), scattered(1000, 5), scattered(1001, 6)} {
		for _, o := range options {
			g := api.Seg{Src: 1 << i, Dst: 65535 >> i, Options: o, Body: body}
			if p.Proto == 6 {
				g.Seq, g.Ack, g.Flags, g.Win, g.Urgent = 1<<31+uint32(i), 77<<i, i*20, i<<9, 5*i
			}
			all = append(all, g)
		}
	}
	return all
}

// packets are those that carry all of these segments, with options and without.
func packets() []api.Ip {
	var all []api.Ip
	for _, p := range carriers() {
		for _, g := range segments(p) {
			all = append(all, carrying(p, g))
			if p.V == 4 {
				for _, o := range []string{"\x01\x01\x01\x00", scattered(24, 7), scattered(40, 8)} {
					q := p
					q.Options = o
					all = append(all, carrying(q, g))
				}
			}
		}
	}
	return all
}

// The frames that the tests make are those that the layers below make.
func TestFramesAsBuilt(t *testing.T) {
	for _, p := range packets() {
		g, e := segment.Parse(p)
		if e != api.OK {
			t.Fatal(e)
		}
		body, e := segment.Build(p, g)
		if body != p.Body || e != api.OK {
			t.Fatalf("%x, %d", body, e)
		}
		s, e := ip.Build(p)
		if s != packetBytes(p) || e != api.OK {
			t.Fatalf("%x, %d", s, e)
		}
		s, e = eth.Build(api.Eth{Dst: macs[:6], Src: macs[6:], Vlan: 5, Pri: 5, Type: typeOf(p.V), Body: s})
		if s != tagged(frameBytes(p), 0xa005) || e != api.OK {
			t.Fatalf("%x, %d", s, e)
		}
	}
}

// A frame whose bytes are all written out: the segment of chapter 8's example,
// whose pseudo header has the sum 0x141e, and the header of this chapter's.
func TestOffloadExample(t *testing.T) {
	head := "\x45\x00\x00\x1e\x00\x00\x40\x00\x40\x11\x26\xcd" + src4 + dst4 + "\x00\x01\x00\x02\x00\x0a"
	whole, left := head+"\x83\x6bhi", head+"\x14\x1ehi"
	h := api.Hdr{Flags: 1, Start: 34, Offset: 6}
	checkOffload(t, macs+"\x08\x00"+whole, h, macs+"\x08\x00"+left)
	checkFinish(t, h, macs+"\x08\x00"+left, macs+"\x08\x00"+whole)
	checkBuild(t, h, "\x01\x00\x00\x00\x00\x00\x22\x00\x06\x00\x00\x00")
	h.Start = 38
	checkOffload(t, macs+"\x81\x00\xe0\x05\x08\x00"+whole, h, macs+"\x81\x00\xe0\x05\x08\x00"+left)
	checkFinish(t, h, macs+"\x81\x00\xe0\x05\x08\x00"+left, macs+"\x81\x00\xe0\x05\x08\x00"+whole)
}

// The header of each kind, as numbers.
func TestOffloadHeaders(t *testing.T) {
	withOptions := func(p api.Ip, n int) api.Ip {
		p.Options = scattered(n, 1)
		return p
	}
	for i, x := range []struct {
		p             api.Ip
		start, offset int
	}{
		{tcp4(), 34, 16},
		{udp4(), 34, 6},
		{tcp6(), 54, 16},
		{udp6(), 54, 6},
		{withOptions(tcp4(), 4), 38, 16},
		{withOptions(udp4(), 40), 74, 6},
	} {
		s := frameBytes(carrying(x.p, sample(x.p)))
		if h, _ := nethdr.Offload(s); h != (api.Hdr{Flags: 1, Start: x.start, Offset: x.offset}) {
			t.Errorf("%d: %v", i, h)
		}
		if h, _ := nethdr.Offload(tagged(s, 5)); h != (api.Hdr{Flags: 1, Start: x.start + 4, Offset: x.offset}) {
			t.Errorf("%d, with a tag: %v", i, h)
		}
	}
}

func TestOffloadPackets(t *testing.T) {
	for _, p := range packets() {
		checkLeft(t, p)
	}
}

func TestOffloadTags(t *testing.T) {
	for _, p := range samples() {
		for _, v := range tags() {
			s := tagged(frameBytes(p), v)
			h, left := wantLeft(s, p)
			checkOffload(t, s, h, left)
		}
	}
}

// Bodies of every number of bytes, up to the longest that a frame holds.
func TestOffloadBodies(t *testing.T) {
	for _, p := range carriers() {
		room := maxFrame - len(frameBytes(carrying(p, api.Seg{})))
		for n := range room + 1 {
			q := carrying(p, api.Seg{Src: n, Dst: 9, Body: scattered(n, uint32(n))})
			s := frameBytes(q)
			h, left := wantLeft(s, q)
			checkOffload(t, s, h, left)
		}
		checkAsIs(t, frameBytes(carrying(p, api.Seg{Body: scattered(room+1, 1)})))
		longest := carrying(p, api.Seg{Body: scattered(room-4, 1)})
		checkLeft(t, longest)
		checkAsIs(t, tagged(frameBytes(carrying(p, api.Seg{Body: scattered(room-3, 1)})), 5))
	}
}

// Addresses of which the sum of the pseudo header is made, carries among them.
func TestOffloadAddresses(t *testing.T) {
	for _, p := range carriers() {
		n := len(p.Src)
		for i, src := range []string{strings.Repeat("\x00", n), strings.Repeat("\xff", n), scattered(n, 1), scattered(n, 2)} {
			for j, dst := range []string{strings.Repeat("\x00", n), strings.Repeat("\xff", n), strings.Repeat("\xff", n-1) + "\x00", scattered(n, 3)} {
				q := p
				q.Src, q.Dst = src, dst
				checkLeft(t, carrying(q, api.Seg{Src: i, Dst: j, Body: scattered(i+4*j, 7)}))
			}
		}
	}
}

// Only the checksum's two bytes change.
func TestOffloadChangesSumOnly(t *testing.T) {
	for _, p := range packets() {
		s := frameBytes(p)
		h, left := nethdr.Offload(s)
		at := h.Start + h.Offset
		if len(left) != len(s) || left[:at] != s[:at] || left[at+2:] != s[at+2:] {
			t.Errorf("Offload(%s): %s", short(s), short(left))
		}
	}
}

func TestOffloadEmpty(t *testing.T) { checkAsIs(t, "") }

// Bytes that are no frame, for each of the errors of eth.Parse.
func TestOffloadNoFrame(t *testing.T) {
	for _, p := range samples() {
		s := frameBytes(p)
		u := tagged(s, 5)
		for i, x := range []struct {
			s    string
			want api.Errno
		}{
			{s[:1], api.ErrEthShort},
			{s[:12], api.ErrEthShort},
			{s[:13], api.ErrEthShort},
			{u[:14], api.ErrEthShort},
			{u[:17], api.ErrEthShort},
			{s + scattered(maxFrame+1, 1), api.ErrEthForm},
			{frameBytes(carrying(p, api.Seg{Body: scattered(1500, 1)})), api.ErrEthForm},
			{tagged(s, 0x1005), api.ErrEthForm},
			{tagged(s, 0xf005), api.ErrEthForm},
			{tagged(s, 0x0fff), api.ErrEthForm},
			{tagged(s, 0xefff), api.ErrEthForm},
			{tagged(u, 5), api.ErrEthForm},
			{framed(0, packetBytes(p)), api.ErrEthForm},
			{framed(0x05ff, packetBytes(p)), api.ErrEthForm},
			{framed(len(packetBytes(p)), packetBytes(p)), api.ErrEthForm},
		} {
			if _, e := eth.Parse(x.s); e != x.want {
				t.Fatalf("%d: %d", i, e)
			}
			checkAsIs(t, x.s)
		}
	}
}

// Every type that is not the one of the packet's version.
func TestOffloadTypes(t *testing.T) {
	for _, p := range samples() {
		s := packetBytes(p)
		for other := range 1 << 16 {
			if other == typeOf(p.V) {
				checkLeft(t, p)
				continue
			}
			checkAsIs(t, framed(other, s))
		}
		for _, other := range []int{0x0806, 0x88a8, 0x0600, 0xffff, typeOf(10 - p.V)} {
			checkAsIs(t, framed(other, s))
			checkAsIs(t, tagged(framed(other, s), 5))
		}
	}
}

// Bodies that are no packet, for each of the errors of ip.Parse, in frames of
// both types.
func TestOffloadNoPacket(t *testing.T) {
	s, u := packetBytes(samples()[1]), packetBytes(samples()[3])
	withOptions := udp4()
	withOptions.Options = "\x01\x01\x01\x00"
	o := packetBytes(carrying(withOptions, sample(withOptions)))
	for i, x := range []struct {
		s    string
		want api.Errno
	}{
		{"", api.ErrIpShort},
		{s[:1], api.ErrIpShort},
		{s[:19], api.ErrIpShort},
		{o[:23], api.ErrIpShort},
		{u[:39], api.ErrIpShort},
		{"\x00" + s[1:], api.ErrIpForm},
		{"\x55" + s[1:], api.ErrIpForm},
		{"\xff" + u[1:], api.ErrIpForm},
		{headSum("\x44"+s[1:], 16), api.ErrIpForm},
		{headSum(with(s, 6, "\x80"), 20), api.ErrIpForm},
		{s[:len(s)-1], api.ErrIpForm},
		{s + "\x00", api.ErrIpForm},
		{u[:len(u)-1], api.ErrIpForm},
		{u + "\x00", api.ErrIpForm},
		{s + strings.Repeat("\x00", 20), api.ErrIpForm},
		{with(s, 10, "\x00\x00"), api.ErrIpSum},
		{with(s, 8, "\x3f"), api.ErrIpSum},
		{with(o, 20, "\x02"), api.ErrIpSum},
	} {
		if _, e := ip.Parse(x.s); e != x.want {
			t.Fatalf("%d: %d, want %d", i, e, x.want)
		}
		for _, frameType := range []int{0x0800, 0x86dd} {
			checkAsIs(t, framed(frameType, x.s))
			checkAsIs(t, tagged(framed(frameType, x.s), 0xa005))
		}
	}
}

// A packet of the other version than the frame's type says.
func TestOffloadOtherVersion(t *testing.T) {
	for _, p := range packets() {
		s := framed(typeOf(10-p.V), packetBytes(p))
		checkAsIs(t, s)
		checkAsIs(t, tagged(s, 5))
	}
}

// Every number of Proto: the sum is made for it, so that nothing else is wrong.
func TestOffloadProtos(t *testing.T) {
	for _, p := range []api.Ip{udp4(), udp6(), tcp4(), tcp6()} {
		place, body := placeOf(p), blankBytes(p, sample(p))
		for proto := range 256 {
			q := having(p, body)
			q.Proto = proto
			q.Body = with(body, place, word(sumOf(pseudo(q)+body)))
			if proto == p.Proto {
				checkLeft(t, q)
			} else {
				checkNotLeft(t, q)
			}
		}
	}
}

// A bit of Off, wherever it is, and the least bit of Flags make a fragment,
// which carries no segment; the other bit of Flags does not.
func TestOffloadFragments(t *testing.T) {
	for _, p := range []api.Ip{tcp4(), udp4()} {
		for p.Flags = range 4 {
			for _, off := range []int{0, 1, 2, 4, 8, 64, 128, 256, 4096, 8191} {
				p.Off = off
				q := carrying(p, sample(p))
				if off == 0 && (p.Flags == 0 || p.Flags == 2) {
					checkLeft(t, q)
				} else {
					checkNotLeft(t, q)
				}
			}
		}
	}
}

// wrongSegments are packets that carry no segment, for each of the errors of
// segment.Parse.
func wrongSegments() map[api.Errno][]api.Ip {
	all := map[api.Errno][]api.Ip{}
	for _, p := range samples() {
		s := p.Body
		head := map[int]int{6: 20, 17: 8}[p.Proto]
		for _, n := range []int{0, 1, 4, head - 1} {
			all[api.ErrSegShort] = append(all[api.ErrSegShort], having(p, s[:n]))
		}
		other := p
		other.Proto = 1
		all[api.ErrSegForm] = append(all[api.ErrSegForm], other)
		if p.Proto == 6 {
			all[api.ErrSegShort] = append(all[api.ErrSegShort], having(p, with(s, 12, "\xf0")))
			all[api.ErrSegForm] = append(all[api.ErrSegForm], having(p, with(s, 12, "\x40")), having(p, with(s, 12, "\x61")))
		} else {
			all[api.ErrSegForm] = append(all[api.ErrSegForm], having(p, s+"\x00"), having(p, s[:len(s)-1]), having(p, with(s, 4, "\x00\x00")))
		}
		place := placeOf(p)
		for _, sum := range []string{"\x00\x01", "\xff\xff", word(folded(pseudo(p))), word(65535 - sumOf(pseudo(p)+with(s, place, "\x00\x00")))} {
			all[api.ErrSegSum] = append(all[api.ErrSegSum], having(p, with(s, place, sum)))
		}
		if p.V == 6 || p.Proto == 6 {
			all[api.ErrSegSum] = append(all[api.ErrSegSum], having(p, with(s, place, "\x00\x00")))
		}
		all[api.ErrSegSum] = append(all[api.ErrSegSum], having(p, s[:len(s)-1]+"p"), having(p, "\x35"+s[1:]))
	}
	return all
}

func TestOffloadNoSegment(t *testing.T) {
	all := wrongSegments()
	if len(all) != 3 {
		t.Fatal(len(all))
	}
	for want, packets := range all {
		for i, p := range packets {
			if _, e := segment.Parse(p); e != want {
				t.Fatalf("%d of %d: %d", i, want, e)
			}
			checkNotLeft(t, p)
		}
	}
}

// UDP without a checksum in version 4 is left as it is; in version 6, and in
// TCP, 0 is a wrong one.
func TestOffloadNoSum(t *testing.T) {
	for _, p := range carriers() {
		for _, body := range []string{"", "h", "hi", scattered(1000, 1)} {
			for _, options := range []string{"", "\x01\x01\x01\x00"} {
				q := p
				if p.V == 4 {
					q.Options = options
				}
				q = carrying(q, api.Seg{Src: 1, Dst: 2, Body: body, NoSum: true})
				checkNotLeft(t, q)
				checkLeft(t, carrying(q, api.Seg{Src: 1, Dst: 2, Body: body}))
			}
		}
	}
}

// Frames that end too soon, wherever that is.
func TestOffloadCut(t *testing.T) {
	for _, p := range samples() {
		for _, s := range []string{frameBytes(p), tagged(frameBytes(p), 5)} {
			for n := range s {
				checkAsIs(t, s[:n])
			}
			checkAsIs(t, s+"\x00")
		}
	}
}

// expected is what Offload returns for any bytes, by what the layers below say
// of them.
func expected(s string) (api.Hdr, string) {
	f, e := eth.Parse(s)
	p, e2 := ip.Parse(f.Body)
	g, e3 := segment.Parse(p)
	if e != api.OK || e2 != api.OK || e3 != api.OK || f.Type != typeOf(p.V) || g.NoSum {
		return api.Hdr{}, s
	}
	return wantLeft(s, p)
}

// Frames with each of their bits changed, and bytes without any order.
func TestOffloadAnyBytes(t *testing.T) {
	for _, p := range samples() {
		for _, s := range []string{frameBytes(p), tagged(frameBytes(p), 0x6005)} {
			for bit := range 8 * len(s) {
				u := with(s, bit/8, one(int(s[bit/8])^128>>(bit%8)))
				h, left := expected(u)
				checkOffload(t, u, h, left)
			}
		}
	}
	for i := range 3000 {
		s := scattered(i%120, uint32(i))
		checkAsIs(t, s)
		checkAsIs(t, framed(0x0800, "\x45"+s))
		checkAsIs(t, framed(0x86dd, "\x60"+s))
	}
	for _, n := range []int{12, 60, 1517, 1518, 1519, 65536, 1 << 20} {
		checkAsIs(t, strings.Repeat("\x00", n))
		checkAsIs(t, strings.Repeat("\xff", n))
	}
}

// What is left once has a wrong checksum, and is not left again.
func TestOffloadTwice(t *testing.T) {
	for _, p := range samples() {
		_, left := nethdr.Offload(frameBytes(p))
		checkAsIs(t, left)
	}
}

// P10.4

func TestBuiltIsParsed(t *testing.T) {
	bytes := []int{0, 1, 127, 128, 255}
	words := []int{0, 1, 255, 256, 0x1234, 65535}
	for flags := range 4 {
		for i := range 2000 {
			h := api.Hdr{
				Flags: flags, Gso: bytes[i%5],
				Len: words[i%6], Size: words[i/6%6], Start: words[i/36%6], Offset: words[i/7%6], Count: words[i/11%6],
			}
			s, e := nethdr.Build(h)
			if len(s) != 12 || e != api.OK {
				t.Fatalf("Build(%v): %x, %d", h, s, e)
			}
			checkParse(t, s, h, "")
			checkParse(t, s+s, h, s)
		}
	}
}

// Numbers of every size in each field, one by one.
func TestBuiltIsParsedOneByOne(t *testing.T) {
	for _, f := range fields() {
		for v := range f.most + 1 {
			h := full()
			f.set(&h, v)
			s, _ := nethdr.Build(h)
			checkParse(t, s, h, "")
		}
	}
}

// What is parsed is built as the same bytes.
func TestParsedIsBuilt(t *testing.T) {
	for i := range 5000 {
		s := one(i%4) + scattered(11, uint32(i))
		h, _, e := nethdr.Parse(s)
		if e != api.OK {
			t.Fatalf("Parse(%x): %d", s, e)
		}
		checkBuild(t, h, s)
	}
}

// checkWhole asks for s itself from Finish of what Offload returns for it, and
// also if the header was built and parsed in between, with the frame behind it.
func checkWhole(t *testing.T, s string) {
	t.Helper()
	h, left := nethdr.Offload(s)
	checkFinish(t, h, left, s)
	u, e := nethdr.Build(h)
	if e != api.OK {
		t.Fatalf("Build(%v): %d", h, e)
	}
	h, left, e = nethdr.Parse(u + left)
	if e != api.OK {
		t.Fatalf("Parse(%x): %d", u, e)
	}
	checkFinish(t, h, left, s)
}

func TestFinishOfOffload(t *testing.T) {
	for i, p := range packets() {
		s := frameBytes(p)
		checkWhole(t, s)
		checkWhole(t, tagged(s, tags()[i%len(tags())]))
		h, left := nethdr.Offload(s)
		if h.Flags != api.HdrNeedsSum {
			t.Errorf("%s: %v", short(s), h)
		}
		h.Flags |= api.HdrSumRight
		checkFinish(t, h, left, s)
	}
}

// Frames that are left as they are, and bytes that are no frames.
func TestFinishOfOffloadAsItIs(t *testing.T) {
	for _, packets := range wrongSegments() {
		for _, p := range packets {
			checkWhole(t, frameBytes(p))
		}
	}
	for _, p := range packets() {
		checkWhole(t, framed(0x0806, packetBytes(p)))
		checkWhole(t, framed(typeOf(10-p.V), packetBytes(p)))
		checkWhole(t, frameBytes(p)[:len(frameBytes(p))-1])
	}
	checkWhole(t, frameBytes(carrying(udp4(), api.Seg{Body: "hi", NoSum: true})))
	for n := range 100 {
		checkWhole(t, scattered(n, uint32(n)))
	}
}

// Segments whose checksum is 65535, for it would be 0, with bodies of even and
// odd numbers of bytes: the body's first two make up for the rest.
func TestFinishOfOffloadAtZero(t *testing.T) {
	for _, p := range carriers() {
		for n := 2; n < 60; n++ {
			rest := scattered(n-2, uint32(n))
			q := having(p, blankBytes(p, api.Seg{Src: n, Dst: 9, Body: "\x00\x00" + rest}))
			first := word(65535 - folded(pseudo(q)+q.Body))
			q = carrying(p, api.Seg{Src: n, Dst: 9, Body: first + rest})
			if place := placeOf(p); q.Body[place:place+2] != "\xff\xff" {
				t.Fatalf("%x", q.Body)
			}
			checkLeft(t, q)
			checkWhole(t, frameBytes(q))
			checkWhole(t, tagged(frameBytes(q), 5))
			checkNotLeft(t, having(q, with(q.Body, placeOf(p), "\x00\x00")))
		}
	}
}

// All checksums that there are: each of them comes out again.
func TestFinishOfOffloadAllSums(t *testing.T) {
	for _, p := range carriers() {
		seen := map[string]bool{}
		for v := range 1 << 16 {
			q := carrying(p, api.Seg{Src: 1, Dst: 2, Body: word(v)})
			seen[q.Body[placeOf(p):placeOf(p)+2]] = true
			s := frameBytes(q)
			h, left := nethdr.Offload(s)
			if whole, e := nethdr.Finish(h, left); whole != s || e != api.OK || h.Flags != 1 {
				t.Fatalf("%x: %v, %x, %d", s, h, whole, e)
			}
		}
		if len(seen) != 65535 || seen["\x00\x00"] {
			t.Errorf("%d checksums", len(seen))
		}
	}
}

// R5: earlier calls, those that return errors among them, make no difference.
func TestAgain(t *testing.T) {
	p := samples()[0]
	s := frameBytes(p)
	h, left := wantLeft(s, p)
	for range 3 {
		checkOffload(t, s, h, left)
		checkAsIs(t, s[:20])
		checkFinish(t, h, left, s)
		checkNoFinish(t, h, "", api.ErrHdrPlace)
		checkParse(t, fullBytes+"x", full(), "x")
		checkNoParse(t, "", api.ErrHdrShort)
		checkBuild(t, full(), fullBytes)
		checkNoBuild(t, api.Hdr{Flags: 4})
	}
}
