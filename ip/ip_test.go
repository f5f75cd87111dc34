package ip_test

import (
	"encoding/binary"
	"fmt"
	"math"
	"strings"
	"testing"

	"aqueduct/api"
	"aqueduct/ip"
)

const (
	src4 = "\xc0\xa8\x00\x01"
	dst4 = "\xc0\xa8\x00\xc7"
	src6 = "\x20\x01\x0d\xb8\x00\x00\x00\x00\x00\x00\x00\x00\x00\x00\x00\x01"
	dst6 = "\xfe\x80\x00\x00\x00\x00\x00\x00\x02\x61\x71\xff\xfe\x00\x00\x05"

	// example is the chapter's: its packet has no body.
	example = "\x45\x00\x00\x14\x00\x00\x00\x00\x40\x11\xf8\xc0" + src4 + dst4
)

// four and six are packets of each version; fields that could be mistaken for
// each other have different numbers.
func four() api.Ip {
	return api.Ip{V: 4, Src: src4, Dst: dst4, Proto: 17, Hops: 63, Class: 0xb8, Id: 0x1234, Flags: 2, Off: 0x0765, Options: "\x94\x04\x00\x01\x01\x02\x03\x00", Body: "hello"}
}

func bare() api.Ip { return api.Ip{V: 4, Src: src4, Dst: dst4, Proto: 17, Hops: 64} }

func six() api.Ip {
	return api.Ip{V: 6, Src: src6, Dst: dst6, Proto: 6, Hops: 63, Class: 0xb8, Label: 0x54321, Body: "hello"}
}

// word and long have the bytes of a number.
func word(v int) string { return string(binary.BigEndian.AppendUint16(nil, uint16(v))) }

func long(v int) string { return string(binary.BigEndian.AppendUint32(nil, uint32(v))) }

// sumOf is the checksum of a header, by a division: a sum with its carries
// added is the remainder modulo 65535, but 65535, not 0, if it is not all zeros.
func sumOf(head string) int {
	n := 0
	for i := 0; i+1 < len(head); i += 2 {
		n += int(head[i])*256 + int(head[i+1])
	}
	if n == 0 {
		return 65535
	}
	return 65534 - (n-1)%65535
}

// summed is s, whose header has so many bytes, with the right checksum.
func summed(s string, size int) string {
	blank := s[:10] + "\x00\x00" + s[12:]
	return s[:10] + word(sumOf(blank[:size])) + s[12:]
}

// bytesOf is what Build is held against: the bytes of a valid packet.
func bytesOf(p api.Ip) string {
	if p.V == 6 {
		return long(6*1<<28+p.Class*1<<20+p.Label) + word(len(p.Body)) + string([]byte{byte(p.Proto), byte(p.Hops)}) + p.Src + p.Dst + p.Body
	}
	size := 20 + len(p.Options)
	s := string([]byte{byte(64 + size/4), byte(p.Class)}) + word(size+len(p.Body)) + word(p.Id) + word(p.Flags*8192+p.Off)
	s += string([]byte{byte(p.Hops), byte(p.Proto)}) + "\x00\x00" + p.Src + p.Dst + p.Options + p.Body
	return summed(s, size)
}

// packetOf is what Parse is held against: it looks at the bytes where they are.
func packetOf(s string) (api.Ip, api.Errno) {
	if s == "" {
		return api.Ip{}, api.ErrIpShort
	}
	one := func(i int) int { return int(s[i]) }
	two := func(i int) int { return one(i)*256 + one(i+1) }
	switch s[0] / 16 {
	case 4:
		size := one(0) % 16 * 4
		if len(s) < 20 || len(s) < size {
			return api.Ip{}, api.ErrIpShort
		}
		if size < 20 || one(6) >= 128 || two(2) != len(s) {
			return api.Ip{}, api.ErrIpForm
		}
		if summed(s, size) != s {
			return api.Ip{}, api.ErrIpSum
		}
		return api.Ip{V: 4, Src: s[12:16], Dst: s[16:20], Proto: one(9), Hops: one(8), Class: one(1), Id: two(4), Flags: one(6) / 32, Off: two(6) % 8192, Options: s[20:size], Body: s[size:]}, api.OK
	case 6:
		if len(s) < 40 {
			return api.Ip{}, api.ErrIpShort
		}
		if two(4) != len(s)-40 {
			return api.Ip{}, api.ErrIpForm
		}
		return api.Ip{V: 6, Src: s[8:24], Dst: s[24:40], Proto: one(6), Hops: one(7), Class: two(0) / 16 % 256, Label: one(1)%16*65536 + two(2), Body: s[40:]}, api.OK
	}
	return api.Ip{}, api.ErrIpForm
}

// short is s as a message shows it.
func short(s string) string {
	if len(s) <= 64 {
		return fmt.Sprintf("%x", s)
	}
	return fmt.Sprintf("%x.. of %d bytes", s[:64], len(s))
}

// shown is p as a message shows it.
func shown(p api.Ip) string {
	return fmt.Sprintf("{V %d, %s to %s, proto %d hops %d class %d id %d flags %d off %d label %d, %s, %s}", p.V, short(p.Src), short(p.Dst), p.Proto, p.Hops, p.Class, p.Id, p.Flags, p.Off, p.Label, short(p.Options), short(p.Body))
}

func checkParse(t *testing.T, s string, want api.Ip) {
	t.Helper()
	if p, e := ip.Parse(s); p != want || e != api.OK {
		t.Errorf("Parse(%s): %s, %d, want %s", short(s), shown(p), e, shown(want))
	}
}

func checkNoParse(t *testing.T, s string, want api.Errno) {
	t.Helper()
	if p, e := ip.Parse(s); p != (api.Ip{}) || e != want {
		t.Errorf("Parse(%s): %s, %d, want nothing and %d", short(s), shown(p), e, want)
	}
}

// checkAsOracle holds Parse of any bytes against packetOf.
func checkAsOracle(t *testing.T, s string) {
	t.Helper()
	if p, e := packetOf(s); e == api.OK {
		checkParse(t, s, p)
	} else {
		checkNoParse(t, s, e)
	}
}

func checkBuild(t *testing.T, p api.Ip, want string) {
	t.Helper()
	if s, e := ip.Build(p); s != want || e != api.OK {
		t.Errorf("Build(%s): %s, %d, want %s", shown(p), short(s), e, short(want))
	}
}

func checkNoBuild(t *testing.T, p api.Ip) {
	t.Helper()
	if s, e := ip.Build(p); s != "" || e != api.ErrIpForm {
		t.Errorf("Build(%s): %s, %d, want nothing and ErrIpForm", shown(p), short(s), e)
	}
}

// checkBuilds holds Build against bytesOf if p may be, and asks for an error
// if it may not be.
func checkBuilds(t *testing.T, p api.Ip, valid bool) {
	t.Helper()
	if valid {
		checkBuild(t, p, bytesOf(p))
	} else {
		checkNoBuild(t, p)
	}
}

func checkPseudo(t *testing.T, p api.Ip, n int, want string) {
	t.Helper()
	if s := ip.Pseudo(p, n); s != want {
		t.Errorf("Pseudo(%s, %d): %s, want %s", shown(p), n, short(s), short(want))
	}
}

// scattered has n bytes without a pattern.
func scattered(n int, seed uint32) string {
	b := make([]byte, n)
	for i := range b {
		seed = seed*1664525 + 1013904223
		b[i] = byte(seed >> 24)
	}
	return string(b)
}

// with is s with other bytes from offset at on.
func with(s string, at int, other string) string { return s[:at] + other + s[at+len(other):] }

// rightWith is a packet of version 4 with other bytes at an offset, and with
// the checksum that is right for them.
func rightWith(s string, at int, other string) string {
	return summed(with(s, at, other), int(s[0]%16)*4)
}

// packets are valid ones of both versions.
func packets() []api.Ip {
	var all []api.Ip
	bodies := []string{"", "h", "hi", "\x00", "\x45\x00\x00\x14", "\xff\xff\xff\xff", "äöü€", scattered(100, 3), scattered(1480, 1), strings.Repeat("\x00", 1481)}
	bytes := []int{0, 1, 6, 17, 127, 128, 254, 255}
	words := []int{0, 1, 255, 256, 0x7fff, 0x8000, 65534, 65535}
	offs := []int{0, 1, 255, 256, 4095, 4096, 8190, 8191}
	labels := []int{0, 1, 255, 65535, 65536, 0x54321, 0x80000, 1<<20 - 1}
	i := 0
	for _, body := range bodies {
		for options := 0; options <= 40; options += 4 {
			for flags := range 4 {
				p := api.Ip{V: 4, Src: scattered(4, uint32(i)), Dst: scattered(4, uint32(2*i+1)), Flags: flags, Options: scattered(options, uint32(i)), Body: body}
				p.Proto, p.Hops, p.Class = bytes[i%8], bytes[i/8%8], bytes[(i+i/8)%8]
				p.Id, p.Off = words[i/3%8], offs[i/5%8]
				q := api.Ip{V: 6, Src: scattered(16, uint32(i)), Dst: scattered(16, uint32(2*i+1)), Body: body}
				q.Proto, q.Hops, q.Class, q.Label = p.Proto, p.Hops, p.Class, labels[i/3%8]
				all = append(all, p, q)
				i++
			}
		}
	}
	return append(all, four(), bare(), six(), longest(0), longest(4), longest(40), longest6())
}

// longest is a packet of version 4 with so many bytes of options, and with as
// many bytes as may be; longest6 is one of version 6.
func longest(options int) api.Ip {
	p := four()
	p.Options, p.Body = scattered(options, 1), scattered(65535-20-options, 2)
	return p
}

func longest6() api.Ip {
	p := six()
	p.Body = scattered(65535, 3)
	return p
}

// P7.1

func TestParseExamples(t *testing.T) {
	checkParse(t, example, bare())
	checkParse(t, "\x47\xb8\x00\x21\x12\x34\x47\x65\x3f\x11\x05\x5b"+src4+dst4+"\x94\x04\x00\x01\x01\x02\x03\x00hello", four())
	checkParse(t, "\x6b\x85\x43\x21\x00\x05\x06\x3f"+src6+dst6+"hello", six())
	checkParse(t, "\x60\x00\x00\x00\x00\x00\x00\x00"+src6+dst6, api.Ip{V: 6, Src: src6, Dst: dst6})
}

func TestParsePackets(t *testing.T) {
	for _, p := range packets() {
		checkParse(t, bytesOf(p), p)
	}
}

func TestParseEmpty(t *testing.T) { checkNoParse(t, "", api.ErrIpShort) }

// The version is looked at ahead of the number of bytes, whatever else is
// wrong; a first byte alone is too short only if its version may be.
func TestParseVersions(t *testing.T) {
	for version := range 16 {
		for low := range 16 {
			first := string([]byte{byte(version<<4 | low)})
			all := []string{first}
			for _, s := range []string{example, bytesOf(four()), bytesOf(six()), scattered(19, 4), scattered(39, 5), strings.Repeat("\xff", 100)} {
				all = append(all, with(s, 0, first))
			}
			for i, s := range all {
				switch {
				case version != 4 && version != 6:
					checkNoParse(t, s, api.ErrIpForm)
				case i == 0:
					checkNoParse(t, s, api.ErrIpShort)
				default:
					checkAsOracle(t, s)
				}
			}
		}
	}
}

func TestParseShort4(t *testing.T) {
	for _, s := range []string{example, bytesOf(four()), "\x45" + strings.Repeat("\xff", 30), "\x40" + scattered(30, 1), "\x4f" + scattered(30, 2)} {
		for n := 1; n < 20; n++ {
			checkNoParse(t, s[:n], api.ErrIpShort)
		}
	}
	p := bare()
	checkParse(t, example[:20], p)
	p.Body = "x"
	checkParse(t, rightWith(example+"x", 2, word(21)), p)
	checkNoParse(t, example+"x", api.ErrIpForm)
}

func TestParseShort6(t *testing.T) {
	for _, s := range []string{bytesOf(six()), "\x60" + strings.Repeat("\x00", 50), "\x6f" + strings.Repeat("\xff", 50), "\x64" + scattered(50, 1)} {
		for n := 1; n < 40; n++ {
			checkNoParse(t, s[:n], api.ErrIpShort)
		}
	}
	p := six()
	p.Body = ""
	checkParse(t, with(bytesOf(six())[:40], 4, "\x00\x00"), p)
	p.Body = "h"
	checkParse(t, with(bytesOf(six())[:41], 4, "\x00\x01"), p)
	checkNoParse(t, with(bytesOf(six())[:41], 4, "\x00\x00"), api.ErrIpForm)
}

// headed has n bytes, at least 20, of version 4, with a header that states so
// many words, and in which nothing else is wrong.
func headed(words, n int) string {
	s := string([]byte{byte(0x40 | words)}) + "\x00" + word(n) + scattered(2, 8) + "\x40\x01\x40\x06\x00\x00" + src4 + dst4 + scattered(n-20, 9)
	return summed(s, max(min(4*words, n), 20)&^1)
}

func TestParseHeaders(t *testing.T) {
	for words := range 16 {
		for _, n := range []int{4*words - 1, 4 * words, 4*words + 1, 19, 20, 21, 59, 60, 61, 100} {
			if n < 1 {
				continue
			}
			s := headed(words, max(n, 20))[:n]
			switch {
			case n < 20 || n < 4*words:
				checkNoParse(t, s, api.ErrIpShort)
			case words < 5:
				checkNoParse(t, s, api.ErrIpForm)
			default:
				checkParse(t, s, api.Ip{V: 4, Src: src4, Dst: dst4, Proto: 6, Hops: 64, Id: int(s[4])*256 + int(s[5]), Flags: 2, Off: 1, Options: s[20 : 4*words], Body: s[4*words:]})
			}
		}
	}
}

// A header that states too few words is invalid with each checksum: with that
// of the bytes that it states, and with that of the first 20 bytes.
func TestParseFewWords(t *testing.T) {
	for words := range 5 {
		s := with(example, 0, string([]byte{byte(0x40 | words)}))
		checkNoParse(t, s, api.ErrIpForm)
		checkNoParse(t, summed(s, 20), api.ErrIpForm)
		if words >= 3 {
			checkNoParse(t, summed(s, 4*words), api.ErrIpForm)
		}
		checkNoParse(t, s[:19], api.ErrIpShort)
	}
}

func TestParseFlags(t *testing.T) {
	for flags := range 8 {
		for _, off := range []int{0, 1, 4095, 4096, 8191} {
			for _, p := range []api.Ip{bare(), four()} {
				s := rightWith(bytesOf(p), 6, word(flags<<13|off))
				p.Flags, p.Off = flags, off
				if flags > 3 {
					checkNoParse(t, s, api.ErrIpForm)
				} else {
					checkParse(t, s, p)
				}
			}
		}
	}
}

func TestParseStatedBytes(t *testing.T) {
	for _, p := range []api.Ip{bare(), four(), six(), {V: 6, Src: src6, Dst: dst6}} {
		s := bytesOf(p)
		n, at := len(s), 2
		if p.V == 6 {
			n, at = len(p.Body), 4
		}
		for _, stated := range []int{0, 1, n - 1, n + 1, n + 256, n * 256, 20, 40, 20 + n, 40 + n, len(s) - 20, len(s), 32768, 65535} {
			if stated < 0 || stated == n {
				continue
			}
			u := with(s, at, word(stated))
			checkNoParse(t, u, api.ErrIpForm)
			if p.V == 4 {
				checkNoParse(t, rightWith(s, at, word(stated)), api.ErrIpForm)
			}
		}
		checkParse(t, s, p)
		checkNoParse(t, s+"\x00", api.ErrIpForm)
		checkNoParse(t, s+s, api.ErrIpForm)
	}
	checkNoParse(t, bytesOf(four())[:32], api.ErrIpForm) // ends within its body
	checkNoParse(t, bytesOf(six())[:44], api.ErrIpForm)
}

// A packet with more bytes than can be stated is not taken for one with 65536
// bytes less.
func TestParseLong(t *testing.T) {
	for _, p := range []api.Ip{longest(0), longest(4), longest(40), longest6()} {
		s := bytesOf(p)
		checkParse(t, s, p)
		for _, more := range []int{1, 2, 20, 40, 65536, 1 << 20} {
			checkNoParse(t, s+scattered(more, 1), api.ErrIpForm)
		}
	}
	for _, p := range []api.Ip{bare(), four(), six()} {
		s := bytesOf(p)
		checkNoParse(t, s+scattered(65536, 1), api.ErrIpForm)
		checkNoParse(t, s+scattered(65535, 1), api.ErrIpForm)
	}
}

func TestParseWrongSum(t *testing.T) {
	for _, p := range []api.Ip{bare(), four(), longest(40)} {
		s := bytesOf(p)
		right := int(s[10])*256 + int(s[11])
		for sum := range 1 << 16 {
			if len(s) > 1000 && sum%97 != 0 || sum == right {
				continue
			}
			checkNoParse(t, with(s, 10, word(sum)), api.ErrIpSum)
		}
	}
	s := bytesOf(six())
	for i := range 8 { // version 6 has no checksum
		if i != 0 && i != 4 && i != 5 {
			checkAsOracle(t, with(s, i, "\x77"))
			if _, e := ip.Parse(with(s, i, "\x77")); e != api.OK {
				t.Errorf("byte %d: %d", i, e)
			}
		}
	}
}

// The body is not summed, but all options are.
func TestParseSumOfHeader(t *testing.T) {
	for _, p := range []api.Ip{four(), longest(40)} {
		s := bytesOf(p)
		size := 20 + len(p.Options)
		for i := range p.Options {
			checkNoParse(t, with(s, 20+i, string([]byte{s[20+i] + 1})), api.ErrIpSum)
		}
		p.Body = scattered(len(p.Body), 77)
		checkParse(t, s[:size]+p.Body, p)
	}
}

// The one's complement sum has two zeros, but the checksum is one of them.
func TestParseSumZero(t *testing.T) {
	for _, options := range []string{"", "\x01\x01\x01\x00"} {
		p := bare()
		p.Options = options
		for p.Id = 0; p.Id < 65536; p.Id++ {
			if s := bytesOf(p); s[10:12] == "\x00\x00" {
				break
			}
		}
		if p.Id == 65536 {
			t.Fatal("no packet with the checksum 0")
		}
		s := bytesOf(p)
		checkParse(t, s, p)
		checkBuild(t, p, s)
		checkNoParse(t, with(s, 10, "\xff\xff"), api.ErrIpSum)
		checkNoParse(t, with(s, 10, "\x00\xff"), api.ErrIpSum)
		checkNoParse(t, with(s, 10, "\xff\x00"), api.ErrIpSum)
	}
}

// Of several faults, the one that comes first in the list is reported.
func TestParseOrder(t *testing.T) {
	s := bytesOf(four()) // a header of 28 bytes, a body of 5
	reserved := with(s, 6, "\xc7")
	for _, x := range []struct {
		name string
		s    string
		want api.Errno
	}{
		{"version, short", "\x55" + s[1:10], api.ErrIpForm},
		{"version, all the rest", "\x70" + strings.Repeat("\xff", 19), api.ErrIpForm},
		{"short, flags, length, checksum", reserved[:19], api.ErrIpShort},
		{"short header, flags, length, checksum", reserved[:27], api.ErrIpShort},
		{"short, few words", "\x40" + s[1:19], api.ErrIpShort},
		{"few words, flags, length, checksum", "\x44" + reserved[1:30], api.ErrIpForm},
		{"few words, checksum", "\x44" + s[1:], api.ErrIpForm},
		{"flags, length, checksum", reserved[:32], api.ErrIpForm},
		{"flags, checksum", reserved, api.ErrIpForm},
		{"length, checksum", with(s[:32], 8, "\x00"), api.ErrIpForm},
		{"checksum", with(s, 8, "\x00"), api.ErrIpSum},
		{"short, length", with(bytesOf(six()), 4, "\xff\xff")[:39], api.ErrIpShort},
	} {
		t.Run(x.name, func(t *testing.T) { checkNoParse(t, x.s, x.want) })
	}
}

func TestParseScattered(t *testing.T) {
	counts := map[api.Errno]int{}
	for seed := range uint32(40000) {
		s := scattered(int(seed%80), seed)
		if len(s) >= 20 && seed%8 != 0 { // make most of them right in one way more
			s = with(s, 0, string([]byte{[2]byte{0x44, 0x60}[seed/8%2] + s[0]%5}))
			if seed%4 != 0 {
				s = with(s, 2, word(len(s)))
				s = with(s, 4, word(len(s)-40))
			}
			if size := int(s[0]%16) * 4; s[0]/16 == 4 && size >= 20 && size <= len(s) && seed%3 != 0 {
				s = summed(s, size)
			}
		}
		_, e := packetOf(s)
		counts[e]++
		checkAsOracle(t, s)
	}
	for _, e := range []api.Errno{api.OK, api.ErrIpShort, api.ErrIpForm, api.ErrIpSum} {
		if counts[e] < 100 {
			t.Errorf("the answer %d came %d times", e, counts[e])
		}
	}
}

// P7.2

func TestBuildExamples(t *testing.T) {
	checkBuild(t, bare(), example)
	checkBuild(t, four(), "\x47\xb8\x00\x21\x12\x34\x47\x65\x3f\x11\x05\x5b"+src4+dst4+"\x94\x04\x00\x01\x01\x02\x03\x00hello")
	checkBuild(t, six(), "\x6b\x85\x43\x21\x00\x05\x06\x3f"+src6+dst6+"hello")
	checkNoBuild(t, api.Ip{})
}

func TestBuildPackets(t *testing.T) {
	for _, p := range packets() {
		checkBuild(t, p, bytesOf(p))
	}
}

func TestBuildVersions(t *testing.T) {
	for _, p := range []api.Ip{bare(), four(), six()} {
		right := p.V
		for _, p.V = range []int{math.MinInt, -4, -1, 0, 1, 3, 4, 5, 6, 7, 8, 15, 16, 20, 22, 68, 260, 262, 1<<32 | 4, 1<<32 | 6, math.MaxInt} {
			checkBuilds(t, p, p.V == right)
		}
	}
}

func TestBuildAddresses(t *testing.T) {
	for _, p := range []api.Ip{bare(), four(), six()} {
		right := map[int]int{4: 4, 6: 16}[p.V]
		for _, n := range []int{0, 1, 3, 4, 5, 6, 8, 15, 16, 17, 20, 32, 65535} {
			q := p
			q.Src = scattered(n, 1)
			checkBuilds(t, q, n == right)
			q.Dst = scattered(n, 2)
			checkBuilds(t, q, n == right)
			q.Src = p.Src
			checkBuilds(t, q, n == right)
			if n <= 2*right { // as many bytes in all
				q.Src = scattered(2*right-n, 3)
				checkBuilds(t, q, n == right)
			}
		}
	}
	p := bare()
	p.Src = "äö" // four bytes, not four runes
	checkBuilds(t, p, true)
	p.Src = "äöäö"
	checkNoBuild(t, p)
}

// numbers are the ones around most, and the smallest and the greatest ones.
func numbers(most int) []int {
	return []int{math.MinInt, math.MinInt + 1, -1 << 32, -most - 1, -most, -2, -1, 0, 1, most / 2, most/2 + 1, most - 1, most, most + 1, most + 2, 2*most + 1, 1 << 32, 1<<32 | 1, 1 << 62, math.MaxInt - 1, math.MaxInt}
}

func TestBuildNumbers(t *testing.T) {
	for _, x := range []struct {
		name  string
		field func(*api.Ip) *int
		most  map[int]int // of each version: 0 if it does not have the field
	}{
		{"Class", func(p *api.Ip) *int { return &p.Class }, map[int]int{4: 255, 6: 255}},
		{"Proto", func(p *api.Ip) *int { return &p.Proto }, map[int]int{4: 255, 6: 255}},
		{"Hops", func(p *api.Ip) *int { return &p.Hops }, map[int]int{4: 255, 6: 255}},
		{"Id", func(p *api.Ip) *int { return &p.Id }, map[int]int{4: 65535, 6: 0}},
		{"Flags", func(p *api.Ip) *int { return &p.Flags }, map[int]int{4: 3, 6: 0}},
		{"Off", func(p *api.Ip) *int { return &p.Off }, map[int]int{4: 8191, 6: 0}},
		{"Label", func(p *api.Ip) *int { return &p.Label }, map[int]int{4: 0, 6: 1<<20 - 1}},
	} {
		t.Run(x.name, func(t *testing.T) {
			for _, p := range []api.Ip{bare(), four(), six()} {
				for _, most := range []int{3, 255, 8191, 65535, 1<<20 - 1} {
					for _, v := range numbers(most) {
						*x.field(&p) = v
						checkBuilds(t, p, v >= 0 && v <= x.most[p.V])
					}
				}
			}
		})
	}
}

func TestBuildOptions(t *testing.T) {
	for _, p := range []api.Ip{bare(), four()} {
		for n := range 70 {
			p.Options = scattered(n, 1)
			checkBuilds(t, p, n%4 == 0 && n <= 40)
		}
		for _, n := range []int{100, 236, 256, 260, 1024, 65515, 65516, 1 << 20} {
			p.Options = scattered(n, 1)
			checkNoBuild(t, p)
		}
		p.Options = "äö"
		checkBuilds(t, p, true)
		p.Options = "äöü€" // four runes, nine bytes
		checkNoBuild(t, p)
	}
}

func TestBuildForeignFields(t *testing.T) {
	for _, n := range []int{1, 3, 4, 8, 40} {
		p := six()
		p.Options = strings.Repeat("\x00", n)
		checkNoBuild(t, p)
	}
	for _, change := range []func(*api.Ip){func(p *api.Ip) { p.Id = 1 }, func(p *api.Ip) { p.Flags = 1 }, func(p *api.Ip) { p.Off = 1 }} {
		p := six()
		change(&p)
		checkNoBuild(t, p)
		p = four()
		p.Id, p.Flags, p.Off = 0, 0, 0
		change(&p)
		checkBuilds(t, p, true)
	}
	p := four()
	p.Label = 1
	checkNoBuild(t, p)
	p.Label = 0
	checkBuilds(t, p, true)
}

func TestBuildLong(t *testing.T) {
	for options := 0; options <= 40; options += 4 {
		p := longest(options)
		s := bytesOf(p)
		if len(s) != 65535 {
			t.Fatalf("%d bytes", len(s))
		}
		checkBuild(t, p, s)
		for _, more := range []int{1, 2, 20, 40, 41, 60, 65536, 1 << 20} {
			q := p
			q.Body += scattered(more, 1)
			checkNoBuild(t, q)
		}
	}
	p := longest6()
	checkBuild(t, p, bytesOf(p))
	for _, more := range []int{1, 2, 40, 65536, 1 << 20} {
		q := p
		q.Body += scattered(more, 1)
		checkNoBuild(t, q)
	}
}

// P7.3

func TestPseudo(t *testing.T) {
	p, q := four(), six()
	for _, x := range []struct {
		n             int
		ofFour, ofSix string
	}{
		{0, "\x00\x00", "\x00\x00\x00\x00"},
		{1, "\x00\x01", "\x00\x00\x00\x01"},
		{10, "\x00\x0a", "\x00\x00\x00\x0a"},
		{0x1234, "\x12\x34", "\x00\x00\x12\x34"},
		{65535, "\xff\xff", "\x00\x00\xff\xff"},
		{65536, "\x00\x00", "\x00\x01\x00\x00"},
		{65537, "\x00\x01", "\x00\x01\x00\x01"},
		{0x12345678, "\x56\x78", "\x12\x34\x56\x78"},
		{1<<32 - 1, "\xff\xff", "\xff\xff\xff\xff"},
		{1 << 32, "\x00\x00", "\x00\x00\x00\x00"},
		{1<<32 + 1, "\x00\x01", "\x00\x00\x00\x01"},
		{math.MaxInt, "\xff\xff", "\xff\xff\xff\xff"},
	} {
		checkPseudo(t, p, x.n, src4+dst4+"\x00\x11"+x.ofFour)
		checkPseudo(t, q, x.n, src6+dst6+x.ofSix+"\x00\x00\x00\x06")
		for _, v := range []int{math.MinInt, -6, -4, -1, 0, 1, 3, 5, 7, 15, 16, 260, 262, 1<<32 | 4, math.MaxInt} {
			p, q := p, q
			p.V, q.V = v, v
			checkPseudo(t, p, x.n, "")
			checkPseudo(t, q, x.n, "")
		}
	}
}

// Nothing but the addresses, Proto and n is in a pseudo header.
func TestPseudoOfPackets(t *testing.T) {
	for i, p := range packets() {
		proto := string([]byte{byte(p.Proto)})
		if p.V == 4 {
			checkPseudo(t, p, i, p.Src+p.Dst+"\x00"+proto+word(i))
			checkPseudo(t, api.Ip{V: 4, Src: p.Src, Dst: p.Dst, Proto: p.Proto}, i, p.Src+p.Dst+"\x00"+proto+word(i))
		} else {
			checkPseudo(t, p, i, p.Src+p.Dst+long(i)+"\x00\x00\x00"+proto)
			checkPseudo(t, api.Ip{V: 6, Src: p.Src, Dst: p.Dst, Proto: p.Proto}, i, p.Src+p.Dst+long(i)+"\x00\x00\x00"+proto)
		}
	}
	for proto := range 256 {
		p := bare()
		p.Proto = proto
		checkPseudo(t, p, 7, src4+dst4+"\x00"+string([]byte{byte(proto)})+"\x00\x07")
	}
}

// What is not specified still ends without a panic.
func TestPseudoEnds(t *testing.T) {
	for _, p := range []api.Ip{four(), six()} {
		for _, n := range []int{math.MinInt, -65536, -1, 0, math.MaxInt} {
			for _, p.Proto = range []int{math.MinInt, -1, 256, math.MaxInt} {
				ip.Pseudo(p, n)
			}
		}
	}
	checkPseudo(t, api.Ip{V: 4, Src: "a", Dst: "bcdef", Proto: 6}, 3, "abcdef\x00\x06\x00\x03")
	checkPseudo(t, api.Ip{V: 6}, 3, "\x00\x00\x00\x03\x00\x00\x00\x00")
}

// P7.4

func TestParseOfBuild(t *testing.T) {
	for _, p := range packets() {
		s, e := ip.Build(p)
		if e != api.OK {
			t.Fatalf("Build(%s): %d", shown(p), e)
		}
		checkParse(t, s, p)
	}
}

func TestBuildOfParse(t *testing.T) {
	seen := map[int]int{}
	for seed := range uint32(40000) {
		s := scattered(40+int(seed%60), seed)
		if seed%2 == 0 {
			s = with(s, 0, string([]byte{0x45 + s[0]%6}))
			s = with(s, 2, word(len(s)))
			s = with(s, 6, string([]byte{s[6] % 128}))
			s = summed(s, int(s[0]%16)*4)
		} else {
			s = with(s, 0, string([]byte{0x60 + s[0]%16}))
			s = with(s, 4, word(len(s)-40))
		}
		p, e := ip.Parse(s)
		if e != api.OK {
			t.Fatalf("Parse(%s): %d", short(s), e)
		}
		seen[p.V]++
		checkBuild(t, p, s)
	}
	if seen[4] == 0 || seen[6] == 0 {
		t.Errorf("packets of each version: %v", seen)
	}
}

// Each byte of a header but the first one is changed to each other value, and
// so in each of its bits.
func TestChangedHeader(t *testing.T) {
	for _, p := range packets() {
		if p.V != 4 || len(p.Body) > 100 || p.Off%2 != 0 && len(p.Body) > 2 {
			continue
		}
		s := []byte(bytesOf(p))
		for i := 1; i < 20+len(p.Options); i++ {
			old := s[i]
			for change := 1; change < 256; change++ {
				s[i] = old ^ byte(change)
				if q, e := ip.Parse(string(s)); q != (api.Ip{}) || e != api.ErrIpSum && e != api.ErrIpForm {
					t.Fatalf("Parse(%s), where byte %d was %#x: %s, %d", short(string(s)), i, old, shown(q), e)
				}
			}
			s[i] = old
		}
	}
}

// So is one whose checksum is one of the two zeros of the sum.
func TestChangedHeaderWithSumZero(t *testing.T) {
	p := four()
	for bytesOf(p)[10:12] != "\x00\x00" {
		p.Id++
	}
	s := bytesOf(p)
	checkParse(t, s, p)
	for i := 1; i < 28; i++ {
		for bit := range 8 {
			u := with(s, i, string([]byte{s[i] ^ 1<<bit}))
			_, want := packetOf(u)
			checkNoParse(t, u, want)
		}
		for v := range 256 {
			if u := with(s, i, string([]byte{byte(v)})); u != s {
				if _, e := ip.Parse(u); e == api.OK {
					t.Errorf("byte %d changed to %#x is accepted", i, v)
				}
			}
		}
	}
}
