package eth_test

import (
	"encoding/binary"
	"fmt"
	"math"
	"slices"
	"strings"
	"testing"

	"aqueduct/api"
	"aqueduct/eth"
)

const (
	dst  = "\x02\x61\x71\x00\x00\x05"
	src  = "\x12\x34\x56\x78\x9a\xbc"
	head = dst + src
)

// plain is a frame without a tag, and tagged is one with a tag.
func plain() api.Eth { return api.Eth{Dst: dst, Src: src, Vlan: -1, Type: 0x0800, Body: "hi"} }

func tagged() api.Eth {
	return api.Eth{Dst: dst, Src: src, Vlan: 0x765, Pri: 5, Type: 0x86dd, Body: "hello"}
}

// word has the two bytes of a number.
func word(v int) string { return string(binary.BigEndian.AppendUint16(nil, uint16(v))) }

// tag has the four bytes of a tag whose last two are v.
func tag(v int) string { return "\x81\x00" + word(v) }

// bytesOf is what Build is held against: the bytes of a valid frame.
func bytesOf(f api.Eth) string {
	s := f.Dst + f.Src
	if f.Vlan != -1 {
		s += tag(f.Pri*8192 + f.Vlan)
	}
	return s + word(f.Type) + f.Body
}

// frameOf is what Parse is held against: it looks at the bytes where they are.
func frameOf(s string) (api.Eth, api.Errno) {
	at := func(i int) int { return int(s[i])*256 + int(s[i+1]) }
	if len(s) > 1518 {
		return api.Eth{}, api.ErrEthForm
	}
	if len(s) < 14 || at(12) == 0x8100 && len(s) < 18 {
		return api.Eth{}, api.ErrEthShort
	}
	f := api.Eth{Dst: s[:6], Src: s[6:12], Vlan: -1, Type: at(12), Body: s[14:]}
	if f.Type == 0x8100 {
		f.Pri, f.Vlan, f.Type, f.Body = int(s[14])/32, at(14)%4096, at(16), s[18:]
		if s[14]&16 != 0 || f.Vlan == 4095 {
			return api.Eth{}, api.ErrEthForm
		}
	}
	if f.Type < 0x0600 || f.Type == 0x8100 {
		return api.Eth{}, api.ErrEthForm
	}
	return f, api.OK
}

// short is s as a message shows it.
func short(s string) string {
	if len(s) <= 32 {
		return fmt.Sprintf("%q", s)
	}
	return fmt.Sprintf("%q.. of %d bytes", s[:32], len(s))
}

// shown is f as a message shows it.
func shown(f api.Eth) string {
	return fmt.Sprintf("{%s %s vlan %d pri %d type %#x %s}", short(f.Dst), short(f.Src), f.Vlan, f.Pri, f.Type, short(f.Body))
}

func checkParse(t *testing.T, s string, want api.Eth) {
	t.Helper()
	if f, e := eth.Parse(s); f != want || e != api.OK {
		t.Errorf("Parse(%s): %s, %d, want %s", short(s), shown(f), e, shown(want))
	}
}

func checkNoParse(t *testing.T, s string, want api.Errno) {
	t.Helper()
	if f, e := eth.Parse(s); f != (api.Eth{}) || e != want {
		t.Errorf("Parse(%s): %s, %d, want nothing and %d", short(s), shown(f), e, want)
	}
}

func checkBuild(t *testing.T, f api.Eth, want string) {
	t.Helper()
	if s, e := eth.Build(f); s != want || e != api.OK {
		t.Errorf("Build(%s): %s, %d, want %s", shown(f), short(s), e, short(want))
	}
}

func checkNoBuild(t *testing.T, f api.Eth) {
	t.Helper()
	if s, e := eth.Build(f); s != "" || e != api.ErrEthForm {
		t.Errorf("Build(%s): %s, %d, want nothing and ErrEthForm", shown(f), short(s), e)
	}
}

func checkTag(t *testing.T, s string, vlan int, want string) {
	t.Helper()
	if u, e := eth.Tag(s, vlan); u != want || e != api.OK {
		t.Errorf("Tag(%s, %d): %s, %d, want %s", short(s), vlan, short(u), e, short(want))
	}
}

func checkNoTag(t *testing.T, s string, vlan int, want api.Errno) {
	t.Helper()
	if u, e := eth.Tag(s, vlan); u != "" || e != want {
		t.Errorf("Tag(%s, %d): %s, %d, want nothing and %d", short(s), vlan, short(u), e, want)
	}
}

// scattered has n bytes without a pattern.
func scattered(n int, seed uint32) string {
	b := make([]byte, n)
	for i := range b {
		seed = seed*1664525 + 1013904223
		b[i] = byte(seed >> 24)
	}
	return string(b)
}

// filled is s with bytes after it, so that it has n of them.
func filled(s string, n int) string { return s + scattered(n-len(s), uint32(n)) }

// isType tells which types are valid.
func isType(v int) bool { return v >= 0x0600 && v <= 0xffff && v != 0x8100 }

// types are numbers around all edges of the valid ones.
var types = []int{math.MinInt, -0x7f00, -1, 0, 1, 0x05dc, 0x05ff, 0x0600, 0x0601, 0x0800, 0x80ff, 0x8100, 0x8101, 0x86dd, 0xfffe, 0xffff, 0x10000, 0x10600, 0x10800, 0x18100, 1<<32 | 0x0800, math.MaxInt}

// vlans are all edges of VLAN numbers that may be in a tag, and badVlans are
// those that may not be, nor say that there is no tag.
var (
	vlans    = []int{0, 1, 2, 0x7ff, 0x800, 4093, 4094}
	badVlans = []int{math.MinInt, -4096, -3, -2, 4095, 4096, 4097, 8191, 8192, 65535, 65536, 1 << 32, math.MaxInt}
	badPris  = []int{math.MinInt, -8, -2, -1, 8, 9, 15, 16, 1 << 32, math.MaxInt}
)

// bodies are such that a frame may have with a tag and without one.
func bodies() []string {
	return []string{"", "h", "hi", "\x00", "\x81\x00", "\x81\x00\x00\x05\x08\x00", "\xff\xff\xff\xff", "äöü€", scattered(100, 3), strings.Repeat("\x00", 46), scattered(1499, 1), scattered(1500, 2)}
}

// frames are valid ones, with tags and without.
func frames() []api.Eth {
	var all []api.Eth
	macs := []string{dst, src, "\xff\xff\xff\xff\xff\xff", "\x00\x00\x00\x00\x00\x00", "\x81\x00\x00\x05\x08\x00"}
	i := 0
	for _, body := range bodies() {
		for _, typ := range types {
			if !isType(typ) {
				continue
			}
			for _, vlan := range append([]int{-1}, vlans...) {
				f := api.Eth{Dst: macs[i%5], Src: macs[i/5%5], Vlan: vlan, Type: typ, Body: body}
				if vlan >= 0 {
					f.Pri = i % 8
				}
				all = append(all, f)
				i++
			}
		}
	}
	for _, n := range []int{1501, 1502, 1503, 1504} {
		all = append(all, api.Eth{Dst: dst, Src: src, Vlan: -1, Type: 0x0600, Body: scattered(n, 9)})
	}
	return all
}

// P6.1

func TestParseExamples(t *testing.T) {
	checkParse(t, head+"\x08\x00hi", plain())
	checkNoParse(t, head+"\x08", api.ErrEthShort)
	checkParse(t, head+"\x81\x00\xa7\x65\x86\xddhello", tagged())
	checkParse(t, head+"\x81\x00\x00\x05\x08\x00hi", api.Eth{Dst: dst, Src: src, Vlan: 5, Type: 0x0800, Body: "hi"})
	checkParse(t, head+"\x81\x00\x00\x00\x08\x00", api.Eth{Dst: dst, Src: src, Type: 0x0800})
	checkParse(t, head+"\xff\xff", api.Eth{Dst: dst, Src: src, Vlan: -1, Type: 0xffff})
}

func TestParseFrames(t *testing.T) {
	for _, f := range frames() {
		checkParse(t, bytesOf(f), f)
	}
}

// Whatever the bytes are, a frame that ends before its body is too short.
func TestParseShort(t *testing.T) {
	for n := range 14 {
		for _, s := range []string{bytesOf(plain()), bytesOf(tagged()), strings.Repeat("\x00", 20), strings.Repeat("\xff", 20), head + "\x05\xff", scattered(20, 7)} {
			checkNoParse(t, s[:n], api.ErrEthShort)
		}
	}
	checkParse(t, head+"\x08\x00", api.Eth{Dst: dst, Src: src, Vlan: -1, Type: 0x0800})
}

// A tag that may not be, and a type that may not be, are reported only if all
// of a frame's first bytes are there.
func TestParseShortWithTag(t *testing.T) {
	for _, v := range []int{0, 5, 0xa765, 4094, 4095, 0x1000, 0x1005, 0x1fff, 0xffff} {
		for _, typ := range []int{0x0800, 0x05ff, 0, 0x8100, 0xffff} {
			s := head + tag(v) + word(typ)
			for n := 14; n < 18; n++ {
				checkNoParse(t, s[:n], api.ErrEthShort)
			}
			if v&0x1000 != 0 || v&0xfff == 4095 || !isType(typ) {
				checkNoParse(t, s, api.ErrEthForm)
				checkNoParse(t, s+"hi", api.ErrEthForm)
			} else {
				checkParse(t, s, api.Eth{Dst: dst, Src: src, Vlan: v & 0xfff, Pri: v >> 13, Type: typ})
			}
		}
	}
}

func TestParseLong(t *testing.T) {
	for _, start := range []string{head + "\x08\x00", head + tag(0xa765) + "\x86\xdd"} {
		for _, n := range []int{1514, 1515, 1516, 1517, 1518} {
			s := filled(start, n)
			f, _ := frameOf(s)
			if len(f.Body) != n-len(start) {
				t.Fatalf("%d bytes: a body of %d", n, len(f.Body))
			}
			checkParse(t, s, f)
		}
		for _, n := range []int{1519, 1520, 1522, 3036, 1 << 16, 1 << 20} {
			checkNoParse(t, filled(start, n), api.ErrEthForm)
		}
	}
}

func TestParseLongAndWrong(t *testing.T) {
	for _, start := range []string{head + "\x05\xff", head + tag(0x1005) + "\x08\x00", head + tag(4095) + "\x08\x00", head + tag(5) + "\x05\xff", head + tag(5) + "\x81\x00"} {
		for _, n := range []int{1517, 1518, 1519, 1520, 1 << 16} {
			checkNoParse(t, filled(start, n), api.ErrEthForm)
		}
	}
}

func TestParseEveryType(t *testing.T) {
	for typ := range 1 << 16 {
		f := api.Eth{Dst: dst, Src: src, Vlan: -1, Type: typ}
		g := api.Eth{Dst: dst, Src: src, Vlan: 7, Pri: 3, Type: typ, Body: "x"}
		switch {
		case typ == 0x8100: // begins a tag, but not in one
			checkNoParse(t, bytesOf(f), api.ErrEthShort)
			checkNoParse(t, bytesOf(g), api.ErrEthForm)
		case typ < 0x0600:
			checkNoParse(t, bytesOf(f), api.ErrEthForm)
			checkNoParse(t, bytesOf(g), api.ErrEthForm)
		default:
			checkParse(t, bytesOf(f), f)
			checkParse(t, bytesOf(g), g)
		}
	}
}

func TestParseEveryTag(t *testing.T) {
	for pri := range 8 {
		for vlan := range 4096 {
			zero, one := pri<<13|vlan, pri<<13|0x1000|vlan
			checkNoParse(t, head+tag(one)+"\x08\x00hi", api.ErrEthForm)
			if vlan == 4095 {
				checkNoParse(t, head+tag(zero)+"\x08\x00hi", api.ErrEthForm)
				continue
			}
			checkParse(t, head+tag(zero)+"\x08\x00hi", api.Eth{Dst: dst, Src: src, Vlan: vlan, Pri: pri, Type: 0x0800, Body: "hi"})
		}
	}
}

// A second tag is none, but a type that may not be.
func TestParseTwoTags(t *testing.T) {
	checkNoParse(t, head+tag(5)+tag(6)+"\x08\x00hi", api.ErrEthForm)
	checkNoParse(t, head+tag(5)+"\x81\x00", api.ErrEthForm)
	checkParse(t, head+"\x08\x00"+tag(5)+"\x08\x00", api.Eth{Dst: dst, Src: src, Vlan: -1, Type: 0x0800, Body: tag(5) + "\x08\x00"})
}

func TestParseScattered(t *testing.T) {
	for seed := range uint32(20000) {
		s := scattered(int(seed%40), seed)
		if len(s) > 14 && seed%3 == 0 {
			s = s[:12] + "\x81\x00" + s[14:]
		}
		if f, e := frameOf(s); e == api.OK {
			checkParse(t, s, f)
		} else {
			checkNoParse(t, s, e)
		}
	}
}

// P6.2

func TestBuildExamples(t *testing.T) {
	checkBuild(t, plain(), head+"\x08\x00hi")
	checkBuild(t, tagged(), head+"\x81\x00\xa7\x65\x86\xddhello")
	checkBuild(t, api.Eth{Dst: dst, Src: src, Type: 0x0600}, head+"\x81\x00\x00\x00\x06\x00")
	checkBuild(t, api.Eth{Dst: dst, Src: src, Vlan: -1, Type: 0xffff}, head+"\xff\xff")
	checkNoBuild(t, api.Eth{})
}

func TestBuildFrames(t *testing.T) {
	for _, f := range frames() {
		checkBuild(t, f, bytesOf(f))
	}
}

func TestBuildAddresses(t *testing.T) {
	for _, f := range []api.Eth{plain(), tagged()} {
		for _, n := range []int{0, 1, 4, 5, 7, 8, 12, 1518, 1 << 16} {
			g := f
			g.Dst = scattered(n, 1)
			checkNoBuild(t, g)
			g.Src = scattered(12-min(n, 12), 1) // twelve bytes in all
			checkNoBuild(t, g)
			g.Dst, g.Src = f.Dst, scattered(n, 1)
			checkNoBuild(t, g)
		}
		f.Dst, f.Src = scattered(6, 1), scattered(6, 2)
		checkBuild(t, f, bytesOf(f))
		f.Src = "äöü" // six bytes, not six runes
		checkBuild(t, f, bytesOf(f))
		f.Src = "äöüäöü"
		checkNoBuild(t, f)
	}
}

func TestBuildTypes(t *testing.T) {
	for _, f := range []api.Eth{plain(), tagged()} {
		for _, f.Type = range types {
			if isType(f.Type) {
				checkBuild(t, f, bytesOf(f))
			} else {
				checkNoBuild(t, f)
			}
		}
		for f.Type = range 1 << 16 {
			if isType(f.Type) {
				checkBuild(t, f, bytesOf(f))
			} else {
				checkNoBuild(t, f)
			}
		}
	}
}

func TestBuildTags(t *testing.T) {
	f := tagged()
	for f.Vlan = range 4095 {
		for f.Pri = range 8 {
			checkBuild(t, f, bytesOf(f))
		}
		for _, f.Pri = range badPris {
			checkNoBuild(t, f)
		}
	}
	for _, f.Vlan = range badVlans {
		for f.Pri = range 8 {
			checkNoBuild(t, f)
		}
	}
}

func TestBuildPriorityWithoutTag(t *testing.T) {
	f := plain()
	for _, f.Pri = range append([]int{1, 2, 3, 4, 5, 6, 7}, badPris...) {
		checkNoBuild(t, f)
	}
	f.Pri = 0
	checkBuild(t, f, bytesOf(f))
}

func TestBuildLong(t *testing.T) {
	for _, f := range []api.Eth{plain(), tagged()} {
		f.Body = ""
		first := len(bytesOf(f))
		for _, n := range []int{first, first + 1, 1514, 1515, 1517, 1518} {
			f.Body = scattered(n-first, 5)
			checkBuild(t, f, bytesOf(f))
		}
		for _, n := range []int{1519, 1520, 1522, 1523, 1 << 16, 1 << 20} {
			f.Body = scattered(n-first, 5)
			checkNoBuild(t, f)
		}
	}
}

// P6.3

func TestTagExamples(t *testing.T) {
	s := head + "\x08\x00hi"
	checkTag(t, s, 5, head+"\x81\x00\x00\x05\x08\x00hi")
	if u, _ := eth.Tag(s, 5); len(u) != 20 {
		t.Errorf("Tag(%q, 5) has %d bytes", s, len(u))
	}
	checkTag(t, s, -1, s)
	checkTag(t, head+"\x81\x00\xa7\x65\x86\xddhello", 4094, head+"\x81\x00\xaf\xfe\x86\xddhello")
	checkTag(t, head+"\x81\x00\xa7\x65\x86\xddhello", -1, head+"\x86\xddhello")
	checkTag(t, head+"\x08\x00", 0, head+"\x81\x00\x00\x00\x08\x00")
}

func TestTagOfPlain(t *testing.T) {
	s := bytesOf(plain())
	for vlan := range 4095 {
		checkTag(t, s, vlan, head+tag(vlan)+"\x08\x00hi")
	}
	for _, vlan := range badVlans {
		checkNoTag(t, s, vlan, api.ErrEthForm)
	}
}

func TestTagOfTagged(t *testing.T) {
	for pri := range 8 {
		for _, old := range vlans {
			s := head + tag(pri<<13|old) + "\x08\x00hi"
			for _, vlan := range vlans { // its own one among them
				checkTag(t, s, vlan, head+tag(pri<<13|vlan)+"\x08\x00hi")
			}
			checkTag(t, s, -1, head+"\x08\x00hi")
			for _, vlan := range badVlans {
				checkNoTag(t, s, vlan, api.ErrEthForm)
			}
		}
	}
}

func TestTagLong(t *testing.T) {
	for _, n := range []int{1513, 1514, 1515, 1516, 1517, 1518} {
		s := filled(head+"\x08\x00", n)
		checkTag(t, s, -1, s)
		for _, vlan := range vlans {
			if n <= 1514 {
				checkTag(t, s, vlan, head+tag(vlan)+s[12:])
			} else {
				checkNoTag(t, s, vlan, api.ErrEthForm)
			}
		}
		u := filled(head+tag(0xa765)+"\x08\x00", n)
		checkTag(t, u, -1, head+u[16:])
		for _, vlan := range vlans {
			checkTag(t, u, vlan, head+tag(0xa000|vlan)+u[16:])
		}
	}
}

// The error of Parse comes ahead of that of the VLAN number.
func TestTagOfNoFrame(t *testing.T) {
	long := filled(head+"\x08\x00", 1519)
	for _, vlan := range slices.Concat([]int{-1}, vlans, badVlans) {
		for n := range 14 {
			checkNoTag(t, bytesOf(plain())[:n], vlan, api.ErrEthShort)
		}
		for n := range 18 {
			checkNoTag(t, bytesOf(tagged())[:n], vlan, api.ErrEthShort)
		}
		for _, s := range []string{long, head + "\x05\xffhi", head + tag(0x1005) + "\x08\x00", head + tag(4095) + "\x08\x00", head + tag(5) + "\x05\xff", head + tag(5) + tag(6) + "\x08\x00"} {
			checkNoTag(t, s, vlan, api.ErrEthForm)
		}
	}
}

// P6.4

func TestParseOfBuild(t *testing.T) {
	for _, f := range frames() {
		s, e := eth.Build(f)
		if e != api.OK {
			t.Fatalf("Build(%s): %d", shown(f), e)
		}
		checkParse(t, s, f)
	}
}

func TestBuildOfParse(t *testing.T) {
	both := [2]int{}
	for seed := range uint32(30000) {
		s := scattered(14+int(seed%60), seed)
		if seed%2 == 0 {
			s = s[:12] + "\x81\x00" + s[14:]
		}
		f, e := eth.Parse(s)
		if e != api.OK {
			continue
		}
		both[seed%2]++
		checkBuild(t, f, s)
	}
	if both[0] == 0 || both[1] == 0 {
		t.Errorf("frames with a tag and without one: %v", both)
	}
}

func TestTagAddedAndRemoved(t *testing.T) {
	for _, f := range frames() {
		if f.Vlan >= 0 {
			continue
		}
		s := bytesOf(f)
		for _, vlan := range vlans {
			if len(s) > 1514 {
				checkNoTag(t, s, vlan, api.ErrEthForm)
				continue
			}
			u, _ := eth.Tag(s, vlan)
			checkTag(t, u, -1, s)
		}
	}
}

func TestTagChangesTheTagAlone(t *testing.T) {
	for _, f := range frames() {
		s := bytesOf(f)
		for _, vlan := range append([]int{-1}, vlans...) {
			u, e := eth.Tag(s, vlan)
			if e != api.OK {
				if f.Vlan != -1 || len(s) <= 1514 {
					t.Errorf("Tag(%s, %d): %d", short(s), vlan, e)
				}
				continue
			}
			g := f
			g.Vlan = vlan
			if vlan == -1 {
				g.Pri = 0
			}
			checkParse(t, u, g)
			checkTag(t, u, vlan, u)
			if f.Vlan >= 0 && vlan >= 0 {
				checkTag(t, u, f.Vlan, s)
			}
		}
	}
}
