package segment_test

import (
	"encoding/binary"
	"fmt"
	"math"
	"strings"
	"testing"

	"aqueduct/api"
	"aqueduct/segment"
)

const (
	src4 = "\x0a\x00\x00\x01"
	dst4 = "\x0a\x00\x00\x02"
	src6 = "\x20\x01\x0d\xb8\x00\x00\x00\x00\x00\x00\x00\x00\x00\x00\x00\x01"
	dst6 = "\xfe\x80\x00\x00\x00\x00\x00\x00\x02\x61\x71\xff\xfe\x00\x00\x05"

	// example is the chapter's: UDP in version 4.
	example = "\x00\x01\x00\x02\x00\x0a\x83\x6bhi"
)

// tcp4 to udp6 are packets that can carry a segment.
func tcp4() api.Ip { return api.Ip{V: 4, Src: src4, Dst: dst4, Proto: 6, Hops: 64} }
func udp4() api.Ip { return api.Ip{V: 4, Src: src4, Dst: dst4, Proto: 17, Hops: 64} }
func tcp6() api.Ip { return api.Ip{V: 6, Src: src6, Dst: dst6, Proto: 6, Hops: 64} }
func udp6() api.Ip { return api.Ip{V: 6, Src: src6, Dst: dst6, Proto: 17, Hops: 64} }

func carriers() []api.Ip { return []api.Ip{tcp4(), udp4(), tcp6(), udp6()} }

// full has different numbers in fields that could be mistaken for each other.
func full() api.Seg {
	return api.Seg{Src: 0x1234, Dst: 0x5678, Seq: 0x9abcdef0, Ack: 0x13579bdf, Flags: 0x52, Win: 0x2468, Urgent: 0xace1, Options: "\x02\x04\x05\xb4", Body: "hello"}
}

func plain() api.Seg { return api.Seg{Src: 1, Dst: 2, Body: "hi"} }

// fitting is a segment of p's kind with all of its fields.
func fitting(p api.Ip) api.Seg {
	if p.Proto == 6 {
		return full()
	}
	return api.Seg{Src: 0x1234, Dst: 0x5678, Body: "hello"}
}

// word and long have the bytes of a number.
func word(v int) string { return string(binary.BigEndian.AppendUint16(nil, uint16(v))) }

func long(v uint32) string { return string(binary.BigEndian.AppendUint32(nil, v)) }

func one(v int) string { return string([]byte{byte(v)}) }

// plainSum is the sum of the words of s, with no carry.
func plainSum(s string) int {
	n := 0
	for i := range len(s) {
		if i%2 == 0 {
			n += int(s[i]) * 256
		} else {
			n += int(s[i])
		}
	}
	return n
}

// folded is the one's complement sum of the words of s, by a division.
func folded(s string) int {
	n := plainSum(s)
	if n == 0 {
		return 0
	}
	return (n-1)%65535 + 1
}

// sumOf is the checksum of s where 0 is not one.
func sumOf(s string) int {
	if sum := 65535 - folded(s); sum != 0 {
		return sum
	}
	return 65535
}

// pseudo is the pseudo header of a segment of n bytes.
func pseudo(p api.Ip, n int) string {
	if p.V == 4 {
		return p.Src + p.Dst + "\x00" + one(p.Proto) + word(n)
	}
	return p.Src + p.Dst + long(uint32(n)) + "\x00\x00\x00" + one(p.Proto)
}

func placeOf(p api.Ip) int { return map[int]int{6: 16, 17: 6}[p.Proto] }

// with is s with other bytes from offset at on.
func with(s string, at int, other string) string { return s[:at] + other + s[at+len(other):] }

// summed is s with the right checksum for p in it.
func summed(p api.Ip, s string) string {
	s = with(s, placeOf(p), "\x00\x00")
	return with(s, placeOf(p), word(sumOf(pseudo(p, len(s))+s)))
}

// carrying is p with the body s.
func carrying(p api.Ip, s string) api.Ip {
	p.Body = s
	return p
}

// blankOf has the bytes of a valid segment, with the checksum 0.
func blankOf(p api.Ip, g api.Seg) string {
	if p.Proto == 17 {
		return word(g.Src) + word(g.Dst) + word(8+len(g.Body)) + "\x00\x00" + g.Body
	}
	return word(g.Src) + word(g.Dst) + long(g.Seq) + long(g.Ack) + one((5+len(g.Options)/4)*16) + one(g.Flags) + word(g.Win) + "\x00\x00" + word(g.Urgent) + g.Options + g.Body
}

// bytesOf is what Build is held against: the bytes of a valid segment.
func bytesOf(p api.Ip, g api.Seg) string {
	if g.NoSum {
		return blankOf(p, g)
	}
	return summed(p, blankOf(p, g))
}

// segOf is what Parse is held against, for packets that can carry a segment: it
// looks at the bytes where they are.
func segOf(p api.Ip) (api.Seg, api.Errno) {
	s := p.Body
	two := func(i int) int { return int(s[i])*256 + int(s[i+1]) }
	four := func(i int) uint32 { return uint32(two(i))*65536 + uint32(two(i+2)) }
	if p.Proto == 17 {
		switch {
		case len(s) < 8:
			return api.Seg{}, api.ErrSegShort
		case two(4) != len(s):
			return api.Seg{}, api.ErrSegForm
		case two(6) == 0 && p.V == 4:
			return api.Seg{Src: two(0), Dst: two(2), Body: s[8:], NoSum: true}, api.OK
		case summed(p, s) != s:
			return api.Seg{}, api.ErrSegSum
		}
		return api.Seg{Src: two(0), Dst: two(2), Body: s[8:]}, api.OK
	}
	if len(s) < 20 || len(s) < int(s[12]/16)*4 {
		return api.Seg{}, api.ErrSegShort
	}
	size := int(s[12]/16) * 4
	if size < 20 || s[12]%16 != 0 {
		return api.Seg{}, api.ErrSegForm
	}
	if summed(p, s) != s {
		return api.Seg{}, api.ErrSegSum
	}
	return api.Seg{Src: two(0), Dst: two(2), Seq: four(4), Ack: four(8), Flags: int(s[13]), Win: two(14), Urgent: two(18), Options: s[20:size], Body: s[size:]}, api.OK
}

// short is s as a message shows it.
func short(s string) string {
	if len(s) <= 64 {
		return fmt.Sprintf("%x", s)
	}
	return fmt.Sprintf("%x.. of %d bytes", s[:64], len(s))
}

// shown and told are a packet and a segment as a message shows them.
func shown(p api.Ip) string {
	return fmt.Sprintf("{V %d, %s to %s, proto %d flags %d off %d, %s}", p.V, short(p.Src), short(p.Dst), p.Proto, p.Flags, p.Off, short(p.Body))
}

func told(g api.Seg) string {
	return fmt.Sprintf("{%d to %d, seq %d ack %d flags %d win %d urgent %d, %s, %s, %v}", g.Src, g.Dst, g.Seq, g.Ack, g.Flags, g.Win, g.Urgent, short(g.Options), short(g.Body), g.NoSum)
}

func checkParse(t *testing.T, p api.Ip, want api.Seg) {
	t.Helper()
	if g, e := segment.Parse(p); g != want || e != api.OK {
		t.Errorf("Parse(%s): %s, %d, want %s", shown(p), told(g), e, told(want))
	}
}

func checkNoParse(t *testing.T, p api.Ip, want api.Errno) {
	t.Helper()
	if g, e := segment.Parse(p); g != (api.Seg{}) || e != want {
		t.Errorf("Parse(%s): %s, %d, want nothing and %d", shown(p), told(g), e, want)
	}
}

// checkAsOracle holds Parse of a packet that can carry a segment against segOf.
func checkAsOracle(t *testing.T, p api.Ip) {
	t.Helper()
	if g, e := segOf(p); e == api.OK {
		checkParse(t, p, g)
	} else {
		checkNoParse(t, p, e)
	}
}

func checkBuild(t *testing.T, p api.Ip, g api.Seg, want string) {
	t.Helper()
	if s, e := segment.Build(p, g); s != want || e != api.OK {
		t.Errorf("Build(%s, %s): %s, %d, want %s", shown(p), told(g), short(s), e, short(want))
	}
}

func checkNoBuild(t *testing.T, p api.Ip, g api.Seg) {
	t.Helper()
	if s, e := segment.Build(p, g); s != "" || e != api.ErrSegForm {
		t.Errorf("Build(%s, %s): %s, %d, want nothing and ErrSegForm", shown(p), told(g), short(s), e)
	}
}

func checkPartial(t *testing.T, p api.Ip, g api.Seg) {
	t.Helper()
	want := with(blankOf(p, g), placeOf(p), word(folded(pseudo(p, len(blankOf(p, g))))))
	if s, at, e := segment.Partial(p, g); s != want || at != placeOf(p) || e != api.OK {
		t.Errorf("Partial(%s, %s): %s, %d, %d, want %s, %d", shown(p), told(g), short(s), at, e, short(want), placeOf(p))
	}
}

func checkNoPartial(t *testing.T, p api.Ip, g api.Seg) {
	t.Helper()
	if s, at, e := segment.Partial(p, g); s != "" || at != 0 || e != api.ErrSegForm {
		t.Errorf("Partial(%s, %s): %s, %d, %d, want nothing and ErrSegForm", shown(p), told(g), short(s), at, e)
	}
}

// checkBuilds asks Build and Partial for the bytes if p and g may be, and for
// an error if they may not be.
func checkBuilds(t *testing.T, p api.Ip, g api.Seg, valid bool) {
	t.Helper()
	if !valid {
		checkNoBuild(t, p, g)
		checkNoPartial(t, p, g)
		return
	}
	checkBuild(t, p, g, bytesOf(p, g))
	if g.NoSum {
		checkNoPartial(t, p, g)
	} else {
		checkPartial(t, p, g)
	}
}

func checkComplete(t *testing.T, s string, start, offset int, want string) {
	t.Helper()
	if u, e := segment.Complete(s, start, offset); u != want || e != api.OK {
		t.Errorf("Complete(%s, %d, %d): %s, %d, want %s", short(s), start, offset, short(u), e, short(want))
	}
}

func checkNoComplete(t *testing.T, s string, start, offset int) {
	t.Helper()
	if u, e := segment.Complete(s, start, offset); u != "" || e != api.ErrArg {
		t.Errorf("Complete(%s, %d, %d): %s, %d, want nothing and ErrArg", short(s), start, offset, short(u), e)
	}
}

// scattered has n bytes without a pattern.
func scattered(n int, seed uint32) string {
	b := make([]byte, n)
	for i := range b {
		seed = seed*1664525 + 1013904223
		b[i] = byte(seed >> 24)
	}
	return string(b)
}

// longest is a segment of p's kind with so many bytes of options, and with as
// many bytes as may be.
func longest(p api.Ip, options int) api.Seg {
	g := fitting(p)
	if p.Proto == 17 {
		g.Body = scattered(65535-8, 2)
		return g
	}
	g.Options, g.Body = scattered(options, 1), scattered(65535-20-options, 2)
	return g
}

// carried is a packet with a segment that it can carry.
type carried struct {
	p api.Ip
	g api.Seg
}

// allCarried are valid ones of TCP and UDP in both versions.
func allCarried() []carried {
	var all []carried
	bodies := []string{"", "h", "hi", "\x00", "\xff\xff\xff\xff", "äöü€", example, scattered(99, 3), scattered(1460, 1), strings.Repeat("\x00", 1461)}
	bytes := []int{0, 1, 2, 127, 128, 254, 255}
	words := []int{0, 1, 255, 256, 0x7fff, 0x8000, 65534, 65535}
	longs := []uint32{0, 1, 65535, 65536, 1<<31 - 1, 1 << 31, 1<<32 - 2, 1<<32 - 1}
	i := 0
	for _, body := range bodies {
		for options := 0; options <= 40; options += 4 {
			for _, p := range carriers() {
				p.Src, p.Dst = scattered(len(p.Src), uint32(i)), scattered(len(p.Dst), uint32(2*i+1))
				p.Flags = []int{0, 2, 4, 6, -2}[i%5]
				g := api.Seg{Src: words[i%8], Dst: words[i/8%8], Body: body}
				if p.Proto == 6 {
					g.Seq, g.Ack, g.Flags = longs[i/3%8], longs[i/5%8], bytes[i/7%7]
					g.Win, g.Urgent, g.Options = words[i/2%8], words[i/11%8], scattered(options, uint32(i))
				} else {
					g.NoSum = p.V == 4 && i%3 == 0
				}
				all = append(all, carried{p, g})
				i++
			}
		}
	}
	for _, p := range carriers() {
		all = append(all, carried{p, api.Seg{}}, carried{p, plain()}, carried{p, fitting(p)}, carried{p, longest(p, 0)}, carried{p, longest(p, 40)})
	}
	return all
}

// zeroSummed is a segment, made of g by another Dst, whose sum would be 0.
func zeroSummed(t *testing.T, p api.Ip, g api.Seg) api.Seg {
	t.Helper()
	for g.Dst = range 1 << 16 {
		if s := blankOf(p, g); folded(pseudo(p, len(s))+s) == 65535 {
			return g
		}
	}
	t.Fatal("no segment with the sum 0")
	return g
}

// Whether a packet can carry a segment, of P8.1 to P8.3.

// checkCarries asks whether p can carry a segment, of one that is right but for
// what p may be, in its body.
func checkCarries(t *testing.T, p api.Ip, can bool) {
	t.Helper()
	for _, g := range []api.Seg{fitting(p), plain(), {}} {
		if can {
			checkParse(t, carrying(p, bytesOf(p, g)), g)
		} else {
			checkNoParse(t, carrying(p, word(g.Src)+word(g.Dst)), api.ErrSegForm)
		}
		checkBuilds(t, p, g, can)
	}
	if !can {
		for _, s := range []string{"", "h", example, bytesOf(udp4(), fitting(udp4())), bytesOf(tcp4(), full()), bytesOf(udp6(), plain()), bytesOf(tcp6(), plain()), scattered(100, 1), strings.Repeat("\xff", 65536)} {
			checkNoParse(t, carrying(p, s), api.ErrSegForm)
		}
	}
}

func TestVersions(t *testing.T) {
	for _, p := range carriers() {
		right := p.V
		for _, p.V = range []int{math.MinInt, -6, -4, -1, 0, 1, 3, 4, 5, 6, 7, 10, 15, 20, 22, 260, 262, 1<<32 | 4, 1<<32 | 6, math.MaxInt} {
			checkCarries(t, p, p.V == right) // its addresses are not those of the other one
		}
	}
}

func TestAddresses(t *testing.T) {
	for _, p := range carriers() {
		right := map[int]int{4: 4, 6: 16}[p.V]
		for _, n := range []int{0, 1, 3, 4, 5, 8, 12, 15, 16, 17, 20, 28, 32, 65535} {
			q := p
			q.Src = scattered(n, 1)
			checkCarries(t, q, n == right)
			q.Dst = scattered(n, 2)
			checkCarries(t, q, n == right)
			q.Src = p.Src
			checkCarries(t, q, n == right)
			if n <= 2*right { // as many bytes in all
				q.Src = scattered(2*right-n, 3)
				checkCarries(t, q, n == right)
			}
		}
	}
	p := udp4()
	p.Src = "äö" // four bytes, not four runes
	checkCarries(t, p, true)
	p.Src = "äöäö"
	checkCarries(t, p, false)
}

func TestProtos(t *testing.T) {
	for _, p := range carriers() {
		for _, p.Proto = range []int{math.MinInt, -17, -6, -1, 0, 1, 5, 6, 7, 16, 17, 18, 23, 58, 255, 256, 262, 273, 1<<32 | 6, 1<<32 | 17, math.MaxInt} {
			checkCarries(t, p, p.Proto == 6 || p.Proto == 17)
		}
	}
}

func TestOffsOfPackets(t *testing.T) {
	for _, p := range carriers() {
		for _, p.Off = range []int{math.MinInt, -1, 0, 1, 2, 8, 8191, 8192, 65536, 1 << 32, math.MaxInt} {
			checkCarries(t, p, p.Off == 0)
		}
	}
}

func TestFlagsOfPackets(t *testing.T) {
	for _, p := range carriers() {
		for _, x := range []struct {
			flags int
			can   bool
		}{{math.MinInt, true}, {math.MinInt + 1, false}, {-3, false}, {-2, true}, {-1, false}, {0, true}, {1, false}, {2, true}, {3, false}, {4, true}, {5, false}, {6, true}, {7, false}, {1 << 32, true}, {1<<32 | 1, false}, {math.MaxInt, false}} {
			p.Flags = x.flags
			checkCarries(t, p, x.can)
			if x.can {
				p.Off = 1
				checkCarries(t, p, false)
				p.Off = 0
			}
		}
	}
}

// The rest of a packet makes no difference, even if it may be in no packet.
func TestRestOfPackets(t *testing.T) {
	for _, p := range carriers() {
		for _, n := range []int{math.MinInt, -1, 0, 1, 255, 256, 65536, 1 << 20, math.MaxInt} {
			q := p
			q.Hops, q.Class, q.Id, q.Label, q.Options = n, n, n, n, "abc"
			g := fitting(p)
			checkParse(t, carrying(q, bytesOf(p, g)), g)
			checkBuild(t, q, g, bytesOf(p, g))
			checkPartial(t, q, g)
		}
	}
}

// P8.1

func TestParseExamples(t *testing.T) {
	checkParse(t, carrying(udp4(), example), plain())
	checkParse(t, carrying(udp4(), "\x00\x01\x00\x02\x00\x0a\x00\x00hi"), api.Seg{Src: 1, Dst: 2, Body: "hi", NoSum: true})
	checkParse(t, carrying(udp6(), "\x00\x01\x00\x02\x00\x0a\xf8\xcchi"), plain())
	checkParse(t, carrying(tcp4(), "\x12\x34\x56\x78\x9a\xbc\xde\xf0\x13\x57\x9b\xdf\x60\x52\x24\x68\xdd\x22\xac\xe1\x02\x04\x05\xb4hello"), full())
	checkParse(t, carrying(tcp6(), "\x12\x34\x56\x78\x9a\xbc\xde\xf0\x13\x57\x9b\xdf\x60\x52\x24\x68\x52\x84\xac\xe1\x02\x04\x05\xb4hello"), full())
}

func TestParseSegments(t *testing.T) {
	for _, c := range allCarried() {
		checkParse(t, carrying(c.p, bytesOf(c.p, c.g)), c.g)
	}
}

// A body is too short whatever is in it; from the header's number of bytes on
// it is not.
func TestParseShort(t *testing.T) {
	for _, p := range carriers() {
		least := map[int]int{6: 20, 17: 8}[p.Proto]
		for n := range 64 {
			for _, s := range []string{scattered(n, 1), strings.Repeat("\x00", n), strings.Repeat("\xff", n)} {
				if n < least {
					checkNoParse(t, carrying(p, s), api.ErrSegShort)
				} else {
					checkAsOracle(t, carrying(p, s))
				}
			}
			if n >= least { // all is right
				s := scattered(n, 2)
				if p.Proto == 6 {
					s = with(s, 12, "\x50")
				} else {
					s = with(s, 4, word(n))
				}
				s = summed(p, s)
				g, _ := segOf(carrying(p, s))
				if g.Body != s[least:] {
					t.Fatalf("the body of %s: %s", short(s), short(g.Body))
				}
				checkParse(t, carrying(p, s), g)
			}
		}
		s := bytesOf(p, fitting(p))
		for n := range least {
			checkNoParse(t, carrying(p, s[:n]), api.ErrSegShort)
		}
	}
}

// headed is a body of n bytes, of TCP, with a header that states so many words,
// and in which nothing else is wrong.
func headed(p api.Ip, words, n int) string {
	return summed(p, with(scattered(n, uint32(words)), 12, one(words*16)))
}

func TestParseHeaders(t *testing.T) {
	for _, p := range []api.Ip{tcp4(), tcp6()} {
		for words := range 16 {
			for _, n := range []int{4*words - 1, 4 * words, 4*words + 1, 19, 20, 21, 59, 60, 61, 100} {
				if n < 0 {
					continue
				}
				s := headed(p, words, max(n, 20))[:n]
				if n >= 20 {
					s = headed(p, words, n)
				}
				switch {
				case n < 20 || n < 4*words:
					checkNoParse(t, carrying(p, s), api.ErrSegShort)
				case words < 5:
					checkNoParse(t, carrying(p, s), api.ErrSegForm)
				default:
					g, e := segment.Parse(carrying(p, s))
					if e != api.OK || g.Options != s[20:4*words] || g.Body != s[4*words:] {
						t.Errorf("%d words, %d bytes: %s, %d", words, n, told(g), e)
					}
					checkAsOracle(t, carrying(p, s))
				}
			}
		}
	}
}

// Each of the four bits beside the number of words, alone and with others.
func TestParseOtherBits(t *testing.T) {
	for _, p := range []api.Ip{tcp4(), tcp6()} {
		for words := 5; words < 16; words++ {
			for bits := range 16 {
				s := summed(p, with(scattered(60, 4), 12, one(words*16+bits)))
				if bits == 0 {
					checkAsOracle(t, carrying(p, s))
				} else {
					checkNoParse(t, carrying(p, s), api.ErrSegForm)
				}
			}
		}
		for flags := range 256 { // the byte after it may be each one
			s := summed(p, with(bytesOf(p, full()), 13, one(flags)))
			g := full()
			g.Flags = flags
			checkParse(t, carrying(p, s), g)
		}
	}
}

func TestParseStatedBytes(t *testing.T) {
	for _, p := range []api.Ip{udp4(), udp6()} {
		for _, body := range []string{"", "h", "hi", scattered(300, 1)} {
			s := bytesOf(p, api.Seg{Src: 1, Dst: 2, Body: body})
			n := len(s)
			for _, stated := range []int{0, 1, 7, 8, 9, n - 8, n - 2, n - 1, n, n + 1, n + 2, n + 8, n + 256, n * 256, 32768, 65534, 65535} {
				u := summed(p, with(s, 4, word(stated)))
				if stated == n {
					checkParse(t, carrying(p, u), api.Seg{Src: 1, Dst: 2, Body: body})
					continue
				}
				checkNoParse(t, carrying(p, u), api.ErrSegForm)
				checkNoParse(t, carrying(p, with(u, 6, "\x00\x00")), api.ErrSegForm)
				checkNoParse(t, carrying(p, with(u, 6, "\x12\x34")), api.ErrSegForm)
			}
			for _, more := range []int{1, 2, 8, 65536, 131072} { // as many bytes as are stated, but for their excess
				checkNoParse(t, carrying(p, summed(p, s+scattered(more, 1))), api.ErrSegForm)
			}
			if n > 8 {
				checkNoParse(t, carrying(p, summed(p, s[:n-1])), api.ErrSegForm)
			}
		}
	}
}

func TestParseWrongSum(t *testing.T) {
	for _, p := range carriers() {
		for _, g := range []api.Seg{plain(), fitting(p), {}} {
			s := bytesOf(p, g)
			for sum := range 1 << 16 {
				u := with(s, placeOf(p), word(sum))
				switch {
				case u == s:
					checkParse(t, carrying(p, u), g)
				case sum == 0 && p == udp4():
					g := g
					g.NoSum = true
					checkParse(t, carrying(p, u), g)
				default:
					checkNoParse(t, carrying(p, u), api.ErrSegSum)
				}
			}
		}
	}
}

// The checksum is also that of the addresses, of Proto and of the number of
// bytes.
func TestParseSumOfPseudoHeader(t *testing.T) {
	for _, p := range carriers() {
		s := bytesOf(p, fitting(p))
		for i := range p.Src {
			q := carrying(p, s)
			q.Src = with(q.Src, i, one(int(q.Src[i])+1))
			checkNoParse(t, q, api.ErrSegSum)
			q = carrying(p, s)
			q.Dst = with(q.Dst, i, one(int(q.Dst[i])+1))
			checkNoParse(t, q, api.ErrSegSum)
		}
		if p.Proto == 6 {
			checkNoParse(t, carrying(p, s+"\x00"), api.ErrSegSum)
			checkNoParse(t, carrying(p, s+"\x00\x00"), api.ErrSegSum)
			checkNoParse(t, carrying(p, s[:len(s)-1]), api.ErrSegSum)
		}
	}
}

// 0 is no checksum, and where the sum would be 0, 65535 is; else that is wrong.
func TestParseSumZero(t *testing.T) {
	for _, p := range carriers() {
		for _, body := range []string{"", "h", "hi", "hello"} {
			g := fitting(p)
			g.Body = body
			g = zeroSummed(t, p, g)
			other := g
			other.Dst ^= 1
			checkParse(t, carrying(p, with(blankOf(p, g), placeOf(p), "\xff\xff")), g)
			checkNoParse(t, carrying(p, with(blankOf(p, other), placeOf(p), "\xff\xff")), api.ErrSegSum)
			for _, g := range []api.Seg{g, other} {
				if p == udp4() {
					noSum := g
					noSum.NoSum = true
					checkParse(t, carrying(p, blankOf(p, g)), noSum)
				} else {
					checkNoParse(t, carrying(p, blankOf(p, g)), api.ErrSegSum)
				}
				checkNoParse(t, carrying(p, with(blankOf(p, g), placeOf(p), "\x00\xff")), api.ErrSegSum)
				checkNoParse(t, carrying(p, with(blankOf(p, g), placeOf(p), "\xff\x00")), api.ErrSegSum)
			}
		}
	}
}

// Of several faults, the one that comes first in the list is reported.
func TestParseOrder(t *testing.T) {
	tcp, udp := bytesOf(tcp4(), full()), bytesOf(udp4(), plain())
	fragment := func(p api.Ip) api.Ip {
		p.Flags = 1
		return p
	}
	for _, x := range []struct {
		name string
		p    api.Ip
		s    string
		want api.Errno
	}{
		{"carrier, short", fragment(tcp4()), tcp[:19], api.ErrSegForm},
		{"carrier, short, of UDP", fragment(udp4()), udp[:7], api.ErrSegForm},
		{"carrier, empty", api.Ip{}, "", api.ErrSegForm},
		{"carrier, short header", fragment(tcp4()), with(tcp, 12, "\xf0"), api.ErrSegForm},
		{"carrier, checksum", fragment(tcp4()), with(tcp, 16, "\x00\x00"), api.ErrSegForm},
		{"carrier, checksum, of UDP", fragment(udp6()), udp, api.ErrSegForm},
		{"short, few words, bits, checksum", tcp4(), with(tcp, 12, "\x4f")[:19], api.ErrSegShort},
		{"short header, bits, checksum", tcp4(), with(tcp, 12, "\xff"), api.ErrSegShort},
		{"short header by one byte, bits, checksum", tcp4(), with(tcp, 12, "\x71")[:27], api.ErrSegShort},
		{"few words, bits, checksum", tcp4(), with(tcp, 12, "\x4f"), api.ErrSegForm},
		{"few words, checksum", tcp4(), with(tcp, 12, "\x00"), api.ErrSegForm},
		{"bits, checksum", tcp4(), with(tcp, 12, "\x68"), api.ErrSegForm},
		{"checksum", tcp4(), with(tcp, 12, "\x50"), api.ErrSegSum},
		{"short, stated bytes, checksum", udp4(), with(udp, 4, "\x00\x00")[:7], api.ErrSegShort},
		{"short, stated as many", udp4(), with(udp, 4, "\x00\x07")[:7], api.ErrSegShort},
		{"stated bytes, checksum", udp4(), with(udp, 4, "\x00\x0b"), api.ErrSegForm},
		{"stated bytes, no checksum", udp6(), with(with(udp, 4, "\x00\x0b"), 6, "\x00\x00"), api.ErrSegForm},
		{"checksum, of UDP", udp4(), with(udp, 0, "\x77"), api.ErrSegSum},
		{"no checksum in version 6", udp6(), with(udp, 6, "\x00\x00"), api.ErrSegSum},
	} {
		t.Run(x.name, func(t *testing.T) { checkNoParse(t, carrying(x.p, x.s), x.want) })
	}
}

func TestParseLongest(t *testing.T) {
	for _, p := range carriers() {
		for options := 0; options <= 40; options += 4 {
			g := longest(p, options)
			s := bytesOf(p, g)
			if len(s) != 65535 {
				t.Fatalf("%d bytes", len(s))
			}
			checkParse(t, carrying(p, s), g)
			checkNoParse(t, carrying(p, s[:65534]+one(int(s[65534])+1)), api.ErrSegSum)
			if p.Proto == 17 {
				break
			}
		}
	}
}

// P8.1 names no greatest number of bytes of TCP, and UDP can't state more.
func TestParseBeyondLongest(t *testing.T) {
	for _, p := range carriers() {
		for _, more := range []int{1, 2, 20, 65536, 1 << 20} {
			g := longest(p, 4)
			g.Body += scattered(more, 1)
			s := summed(p, blankOf(p, g))
			if p.Proto == 17 {
				checkNoParse(t, carrying(p, s), api.ErrSegForm)
				continue
			}
			checkParse(t, carrying(p, s), g)
			checkNoParse(t, carrying(p, with(s, 0, "\xee")), api.ErrSegSum)
		}
	}
}

func TestParseScattered(t *testing.T) {
	counts := map[api.Errno]int{}
	for seed := range uint32(40000) {
		p := carriers()[seed%4]
		s := scattered(int(seed/4%70), seed)
		if len(s) >= 20 && seed/4%8 != 0 { // make most of them right in one way more
			if p.Proto == 6 {
				s = with(s, 12, one(int(64+seed%5*16+seed/32%8/7)))
			} else if seed/4%4 != 0 {
				s = with(s, 4, word(len(s)))
			}
			if seed/4%3 != 0 {
				s = summed(p, s)
			}
		}
		_, e := segOf(carrying(p, s))
		counts[e]++
		checkAsOracle(t, carrying(p, s))
	}
	for _, e := range []api.Errno{api.OK, api.ErrSegShort, api.ErrSegForm, api.ErrSegSum} {
		if counts[e] < 100 {
			t.Errorf("the answer %d came %d times", e, counts[e])
		}
	}
}

// P8.2

func TestBuildExamples(t *testing.T) {
	checkBuild(t, udp4(), plain(), example)
	checkBuild(t, udp4(), api.Seg{Src: 1, Dst: 2, Body: "hi", NoSum: true}, "\x00\x01\x00\x02\x00\x0a\x00\x00hi")
	checkBuild(t, udp6(), plain(), "\x00\x01\x00\x02\x00\x0a\xf8\xcchi")
	checkBuild(t, tcp4(), full(), "\x12\x34\x56\x78\x9a\xbc\xde\xf0\x13\x57\x9b\xdf\x60\x52\x24\x68\xdd\x22\xac\xe1\x02\x04\x05\xb4hello")
	checkBuild(t, tcp6(), full(), "\x12\x34\x56\x78\x9a\xbc\xde\xf0\x13\x57\x9b\xdf\x60\x52\x24\x68\x52\x84\xac\xe1\x02\x04\x05\xb4hello")
	checkNoBuild(t, api.Ip{}, api.Seg{})
}

func TestBuildSegments(t *testing.T) {
	for _, c := range allCarried() {
		checkBuilds(t, c.p, c.g, true)
	}
}

// A packet's own body makes no difference, not even one that is no segment.
func TestBuildIgnoresBody(t *testing.T) {
	for _, p := range carriers() {
		g := fitting(p)
		for _, s := range []string{"", "h", example, bytesOf(p, plain()), bytesOf(p, g), scattered(65535, 1), scattered(65536, 1), scattered(1<<20, 1)} {
			q := carrying(p, s)
			checkBuild(t, q, g, bytesOf(p, g))
			checkPartial(t, q, g)
			q.Flags = 1
			checkNoBuild(t, q, g)
		}
	}
}

// numbers are the ones around most, and the smallest and the greatest ones.
func numbers(most int) []int {
	return []int{math.MinInt, math.MinInt + 1, -1 << 32, -most - 1, -most, -2, -1, 0, 1, most / 2, most/2 + 1, most - 1, most, most + 1, most + 2, 2*most + 1, 1 << 32, 1<<32 | 1, 1 << 62, math.MaxInt - 1, math.MaxInt}
}

func TestBuildNumbers(t *testing.T) {
	for _, x := range []struct {
		name  string
		field func(*api.Seg) *int
		most  map[int]int // of each Proto: 0 if it does not have the field
	}{
		{"Src", func(g *api.Seg) *int { return &g.Src }, map[int]int{6: 65535, 17: 65535}},
		{"Dst", func(g *api.Seg) *int { return &g.Dst }, map[int]int{6: 65535, 17: 65535}},
		{"Flags", func(g *api.Seg) *int { return &g.Flags }, map[int]int{6: 255, 17: 0}},
		{"Win", func(g *api.Seg) *int { return &g.Win }, map[int]int{6: 65535, 17: 0}},
		{"Urgent", func(g *api.Seg) *int { return &g.Urgent }, map[int]int{6: 65535, 17: 0}},
	} {
		t.Run(x.name, func(t *testing.T) {
			for _, p := range carriers() {
				for _, g := range []api.Seg{fitting(p), plain(), {}} {
					for _, most := range []int{1, 255, 65535} {
						for _, v := range numbers(most) {
							*x.field(&g) = v
							checkBuilds(t, p, g, v >= 0 && v <= x.most[p.Proto])
						}
					}
				}
			}
		})
	}
}

func TestBuildLongNumbers(t *testing.T) {
	for _, p := range carriers() {
		for _, v := range []uint32{0, 1, 255, 65535, 65536, 1<<31 - 1, 1 << 31, 1<<32 - 2, 1<<32 - 1} {
			g := fitting(p)
			g.Seq, g.Ack = v, 0
			checkBuilds(t, p, g, p.Proto == 6 || v == 0)
			g.Seq, g.Ack = 0, v
			checkBuilds(t, p, g, p.Proto == 6 || v == 0)
			g.Seq = v
			checkBuilds(t, p, g, p.Proto == 6 || v == 0)
		}
	}
}

func TestBuildOptions(t *testing.T) {
	for _, p := range carriers() {
		g := fitting(p)
		for n := range 70 {
			g.Options = scattered(n, 1)
			checkBuilds(t, p, g, n == 0 || p.Proto == 6 && n%4 == 0 && n <= 40)
		}
		for _, n := range []int{100, 236, 256, 260, 1024, 65515, 65516, 1 << 20} {
			g.Options = scattered(n, 1)
			checkBuilds(t, p, g, false)
		}
		g.Options = "äö"
		checkBuilds(t, p, g, p.Proto == 6)
		g.Options = "äöü€" // four runes, nine bytes
		checkBuilds(t, p, g, false)
		g.Options = "\x00\x00\x00\x00" // not empty, though each byte is 0
		checkBuilds(t, p, g, p.Proto == 6)
	}
}

// Each field that UDP does not have, alone.
func TestBuildForeignFields(t *testing.T) {
	for _, change := range []func(*api.Seg){
		func(g *api.Seg) { g.Seq = 1 },
		func(g *api.Seg) { g.Ack = 1 },
		func(g *api.Seg) { g.Flags = 1 },
		func(g *api.Seg) { g.Win = 1 },
		func(g *api.Seg) { g.Urgent = 1 },
		func(g *api.Seg) { g.Options = "\x01\x01\x01\x00" },
	} {
		for _, p := range carriers() {
			for _, g := range []api.Seg{plain(), {}} {
				change(&g)
				checkBuilds(t, p, g, p.Proto == 6)
				g.NoSum = true
				checkBuilds(t, p, g, false)
			}
		}
	}
}

func TestBuildNoSum(t *testing.T) {
	for _, p := range carriers() {
		for _, g := range []api.Seg{plain(), fitting(p), {}, longest(p, 0)} {
			g.NoSum = true
			checkBuilds(t, p, g, p == udp4())
		}
		if p == udp4() {
			g := zeroSummed(t, p, plain())
			g.NoSum = true
			checkBuilds(t, p, g, true)
		}
	}
}

func TestBuildLong(t *testing.T) {
	for _, p := range carriers() {
		for options := 0; options <= 40; options += 4 {
			g := longest(p, options)
			checkBuilds(t, p, g, true)
			for _, more := range []int{1, 2, 4, 8, 12, 20, 40, 60, 65536, 1 << 20} {
				g := g
				g.Body += scattered(more, 1)
				checkBuilds(t, p, g, false)
				if p == udp4() {
					g.NoSum = true
					checkBuilds(t, p, g, false)
				}
			}
			if p.Proto == 17 {
				break
			}
		}
	}
}

// Where the sum would be 0, 65535 is the checksum.
func TestBuildSumZero(t *testing.T) {
	for _, p := range carriers() {
		for _, body := range []string{"", "h", "hi", "hello"} {
			g := fitting(p)
			g.Body = body
			g = zeroSummed(t, p, g)
			checkBuild(t, p, g, with(blankOf(p, g), placeOf(p), "\xff\xff"))
		}
	}
}

// P8.3

func TestPartialExamples(t *testing.T) {
	for _, x := range []struct {
		p    api.Ip
		g    api.Seg
		want string
		at   int
	}{
		{udp4(), plain(), "\x00\x01\x00\x02\x00\x0a\x14\x1ehi", 6},
		{udp6(), plain(), "\x00\x01\x00\x02\x00\x0a\x9e\xbchi", 6},
		{tcp4(), plain(), "\x00\x01\x00\x02\x00\x00\x00\x00\x00\x00\x00\x00\x50\x00\x00\x00\x14\x1f\x00\x00hi", 16},
		{tcp6(), plain(), "\x00\x01\x00\x02\x00\x00\x00\x00\x00\x00\x00\x00\x50\x00\x00\x00\x9e\xbd\x00\x00hi", 16},
	} {
		if s, at, e := segment.Partial(x.p, x.g); s != x.want || at != x.at || e != api.OK {
			t.Errorf("Partial(%s, %s): %x, %d, %d, want %x, %d", shown(x.p), told(x.g), s, at, e, x.want, x.at)
		}
	}
}

func TestPartialSegments(t *testing.T) {
	for _, c := range allCarried() {
		if c.g.NoSum {
			checkNoPartial(t, c.p, c.g)
		} else {
			checkPartial(t, c.p, c.g)
		}
	}
}

func TestPartialErrors(t *testing.T) {
	for _, p := range carriers() {
		for _, change := range []func(*api.Ip, *api.Seg){
			func(p *api.Ip, g *api.Seg) { p.V = 5 },
			func(p *api.Ip, g *api.Seg) { p.Src += "x" },
			func(p *api.Ip, g *api.Seg) { p.Dst = "" },
			func(p *api.Ip, g *api.Seg) { p.Proto = 1 },
			func(p *api.Ip, g *api.Seg) { p.Off = 1 },
			func(p *api.Ip, g *api.Seg) { p.Flags = 1 },
			func(p *api.Ip, g *api.Seg) { g.Src = -1 },
			func(p *api.Ip, g *api.Seg) { g.Dst = 65536 },
			func(p *api.Ip, g *api.Seg) { g.Flags = 256 },
			func(p *api.Ip, g *api.Seg) { g.Win = 65536 },
			func(p *api.Ip, g *api.Seg) { g.Urgent = -1 },
			func(p *api.Ip, g *api.Seg) { g.Options = "abc" },
			func(p *api.Ip, g *api.Seg) { g.Body = scattered(65536, 1) },
			func(p *api.Ip, g *api.Seg) { g.NoSum = true },
		} {
			q, g := p, fitting(p)
			change(&q, &g)
			checkNoPartial(t, q, g)
		}
	}
}

// The sum of a pseudo header may be 65535, and is written as it is.
func TestPartialSumOfAllOnes(t *testing.T) {
	for _, p := range carriers() {
		g := fitting(p)
		found := false
		for n := range 1 << 16 {
			p.Src = with(p.Src, len(p.Src)-2, word(n))
			if folded(pseudo(p, len(blankOf(p, g)))) == 65535 {
				found = true
				break
			}
		}
		if !found {
			t.Fatal("no such pseudo header")
		}
		checkPartial(t, p, g)
		s, at, _ := segment.Partial(p, g)
		if s[at:at+2] != "\xff\xff" {
			t.Errorf("%x", s)
		}
		checkComplete(t, s, 0, at, bytesOf(p, g))
	}
}

func TestCompleteExamples(t *testing.T) {
	checkComplete(t, "abcd", 0, 0, "\x3b\x39cd")
	checkComplete(t, "abcd", 0, 1, "a\x3b\x39d")
	checkComplete(t, "abcd", 0, 2, "ab\x3b\x39")
	checkComplete(t, "abcd", 1, 0, "a\x39\x9cd")
	checkComplete(t, "abcd", 1, 1, "ab\x39\x9c")
	checkComplete(t, "abcd", 2, 0, "ab\x9c\x9b")
	checkComplete(t, "\x00\x00", 0, 0, "\xff\xff")
	checkComplete(t, "\xff\xff", 0, 0, "\xff\xff")
	checkComplete(t, "\x00\x01\x00\x02\x00\x0a\x14\x1ehi", 0, 6, example)
	checkNoComplete(t, "", 0, 0)
	checkNoComplete(t, "a", 0, 0)
	checkNoComplete(t, "ab", 0, 1)
	checkNoComplete(t, "ab", 1, 0)
}

// All places of byte strings of some lengths, and those around them.
func TestCompletePlaces(t *testing.T) {
	for _, n := range []int{0, 1, 2, 3, 4, 5, 8, 9, 40, 41} {
		places := []int{math.MinInt, math.MinInt + 1, -1 << 32, -n, -2, -1, n + 1, n + 2, 2 * n, 1 << 32, 1<<62 - 1, 1 << 62, math.MaxInt - n, math.MaxInt - 1, math.MaxInt}
		for i := range n + 1 {
			places = append(places, i)
		}
		for _, s := range []string{scattered(n, 1), strings.Repeat("\x00", n), strings.Repeat("\xff", n)} {
			for _, start := range places {
				for _, offset := range places {
					if start < 0 || start > n || offset < 0 || offset > n || start+offset+2 > n {
						checkNoComplete(t, s, start, offset)
						continue
					}
					checkComplete(t, s, start, offset, with(s, start+offset, word(sumOf(s[start:]))))
				}
			}
		}
	}
}

// Bytes ahead of start are not summed, and those in the checksum's place are.
func TestCompleteWhatIsSummed(t *testing.T) {
	checkComplete(t, "xyz\x12\x34\x00\x00", 3, 2, "xyz\x12\x34\xed\xcb")
	checkComplete(t, "XYZ\x12\x34\x00\x00", 3, 2, "XYZ\x12\x34\xed\xcb")
	checkComplete(t, "xyz\x12\x34\x00\x01", 3, 2, "xyz\x12\x34\xed\xca")
	checkComplete(t, "xyz\x12\x34\x00\x00\x01", 3, 2, "xyz\x12\x34\xec\xcb\x01")
	checkComplete(t, "xyz\x12\x34\x00\x00\x00\x01", 3, 2, "xyz\x12\x34\xed\xca\x00\x01")
}

func TestCompleteSumZero(t *testing.T) {
	checkComplete(t, "\x00\x00\xff\xff", 0, 0, "\xff\xff\xff\xff")
	checkComplete(t, "\x00\x00\xff\xff", 0, 1, "\x00\xff\xff\xff")
	checkComplete(t, "\x12\x34\xed\xcb", 0, 2, "\x12\x34\xff\xff")
	checkComplete(t, "a\x12\x34\xed\xcb", 1, 0, "a\xff\xff\xed\xcb")
	checkComplete(t, "\xff\x00\x00\xff\x00", 0, 3, "\xff\x00\x00\xff\xff")
	checkComplete(t, "\x00\xff\xff", 0, 1, "\x00\xff\xff") // an odd number of bytes: 00 ff and ff 00
	checkComplete(t, "\xff\x00\xff", 0, 1, "\xff\x01\xfe") // ff 00 and ff 00
	checkComplete(t, "\x00\xff\xff", 1, 0, "\x00\xff\xff")
}

func TestCompleteLong(t *testing.T) {
	for _, n := range []int{65535, 65536, 1 << 20, 1<<20 + 1} {
		s := scattered(n, 1)
		for _, start := range []int{0, 1, 34, n / 2, n - 2} {
			for _, offset := range []int{0, n - start - 2} {
				checkComplete(t, s, start, offset, with(s, start+offset, word(sumOf(s[start:]))))
			}
			checkNoComplete(t, s, start, n-start-1)
		}
	}
}

// P8.4

func TestParseOfBuild(t *testing.T) {
	for _, c := range allCarried() {
		s, e := segment.Build(c.p, c.g)
		if e != api.OK {
			t.Fatalf("Build(%s, %s): %d", shown(c.p), told(c.g), e)
		}
		checkParse(t, carrying(c.p, s), c.g)
	}
}

func TestBuildOfParse(t *testing.T) {
	noSums := 0
	for seed := range uint32(40000) {
		p := carriers()[seed%4]
		s := scattered(20+int(seed/4%60), seed)
		if p.Proto == 6 {
			s = with(s, 12, one((5+int(s[12])%(len(s)/4-4)%11)*16))
		} else {
			s = with(s, 4, word(len(s)))
		}
		s = summed(p, s)
		if p == udp4() && seed%3 == 0 {
			s = with(s, 6, "\x00\x00")
		}
		g, e := segment.Parse(carrying(p, s))
		if e != api.OK {
			t.Fatalf("Parse(%s): %d", shown(carrying(p, s)), e)
		}
		if g.NoSum {
			noSums++
		}
		checkBuild(t, p, g, s)
	}
	if noSums == 0 {
		t.Error("no segment had no checksum")
	}
}

// All numbers in the place of a checksum: what is accepted is built so.
func TestBuildOfParseOfEachSum(t *testing.T) {
	for _, p := range carriers() {
		for _, g := range []api.Seg{plain(), zeroSummed(t, p, plain())} {
			accepted := 0
			for sum := range 1 << 16 {
				s := with(blankOf(p, g), placeOf(p), word(sum))
				if g, e := segment.Parse(carrying(p, s)); e == api.OK {
					accepted++
					checkBuild(t, p, g, s)
				}
			}
			if want := map[bool]int{true: 2, false: 1}[p == udp4()]; accepted != want {
				t.Errorf("%s: %d checksums were accepted, want %d", shown(p), accepted, want)
			}
		}
	}
}

func TestCompleteOfPartial(t *testing.T) {
	all := allCarried()
	for _, p := range carriers() {
		all = append(all, carried{p, zeroSummed(t, p, plain())}, carried{p, zeroSummed(t, p, fitting(p))})
	}
	for _, c := range all {
		if c.g.NoSum {
			continue
		}
		s, e := segment.Build(c.p, c.g)
		u, at, f := segment.Partial(c.p, c.g)
		if e != api.OK || f != api.OK {
			t.Fatalf("%s, %s: %d, %d", shown(c.p), told(c.g), e, f)
		}
		checkComplete(t, u, 0, at, s)
		for _, ahead := range []string{"a", "ahead", "\xff\xff", scattered(34, 1), scattered(55, 2)} {
			checkComplete(t, ahead+u, len(ahead), at, ahead+s)
		}
	}
}

// Each byte of a body is changed in each of its bits, and to other values.
func TestChangedBody(t *testing.T) {
	for _, c := range allCarried() {
		if c.g.NoSum || len(c.g.Body) > 100 {
			continue
		}
		s := bytesOf(c.p, c.g)
		for i := len(s) - len(c.g.Body); i < len(s); i++ {
			for bit := range 8 {
				checkNoParse(t, carrying(c.p, with(s, i, one(int(s[i])^1<<bit))), api.ErrSegSum)
			}
			checkNoParse(t, carrying(c.p, with(s, i, one(int(s[i])^255))), api.ErrSegSum)
		}
	}
}

// So it is in a segment whose checksum stands for 0, and whatever it is changed to.
func TestChangedBodyWithSumZero(t *testing.T) {
	for _, p := range carriers() {
		for _, body := range []string{"hello", "\x00\x00\x00\x00", "\xff\xff\xff", "\x00\xff\xff\x00"} {
			for _, g := range []api.Seg{{Src: 1, Dst: 2, Body: body}, zeroSummed(t, p, api.Seg{Src: 1, Body: body})} {
				s := bytesOf(p, g)
				checkParse(t, carrying(p, s), g)
				for i := len(s) - len(body); i < len(s); i++ {
					for change := 1; change < 256; change++ {
						checkNoParse(t, carrying(p, with(s, i, one(int(s[i])^change))), api.ErrSegSum)
					}
				}
			}
		}
	}
}

// A header that was changed in one bit is rejected too, unless the checksum of
// UDP has become 0, which in version 4 means that there is none.
func TestChangedHeader(t *testing.T) {
	for _, p := range carriers() {
		for _, g := range []api.Seg{plain(), fitting(p), zeroSummed(t, p, fitting(p))} {
			s := bytesOf(p, g)
			for i := range len(s) - len(g.Body) {
				for bit := range 8 {
					q := carrying(p, with(s, i, one(int(s[i])^1<<bit)))
					_, e := segOf(q)
					if e == api.OK {
						t.Fatalf("%s, of %s", shown(q), told(g))
					}
					checkNoParse(t, q, e)
				}
			}
		}
	}
}
