package flow_test

import (
	"encoding/binary"
	"encoding/hex"
	"fmt"
	"math"
	"net/netip"
	"strings"
	"testing"

	"aqueduct/api"
	"aqueduct/eth"
	"aqueduct/flow"
	"aqueduct/ip"
	"aqueduct/segment"
	"aqueduct/toeplitz"
)

const (
	macs = "\x02\x61\x71\x00\x00\x05\x12\x34\x56\x78\x9a\xbc"
	src4 = "\x0a\x00\x00\x01"
	dst4 = "\x0a\x00\x00\x02"
	src6 = "\x20\x01\x0d\xb8\x00\x00\x00\x00\x00\x00\x00\x00\x00\x00\x00\x01"
	dst6 = "\xfe\x80\x00\x00\x00\x00\x00\x00\x02\x61\x71\xff\xfe\x00\x00\x05"

	ports = "\x12\x34\xab\xcd"

	// exampleKey is the key of chapter 3's examples, in hexadecimal.
	exampleKey = "6d5a56da255b0ec24167253d43a38fb0d0ca2bcbae7b30b477cb2da38030f20c6a42b73bbeac01fa"
)

// four and six are packets of each version, with more than the ports in their
// bodies.
func four() api.Ip {
	return api.Ip{V: 4, Src: src4, Dst: dst4, Proto: 17, Hops: 64, Class: 0xb8, Id: 0x1717, Body: ports + "hello"}
}

func six() api.Ip {
	return api.Ip{V: 6, Src: src6, Dst: dst6, Proto: 17, Hops: 64, Class: 0xb8, Label: 0x54321, Body: ports + "hello"}
}

func one(v int) string { return string([]byte{byte(v)}) }

// word and long have the bytes of a number.
func word(v int) string { return string(binary.BigEndian.AppendUint16(nil, uint16(v))) }

func long(v int) string { return string(binary.BigEndian.AppendUint32(nil, uint32(v))) }

// scattered has n bytes without a pattern.
func scattered(n int, seed uint32) string {
	b := make([]byte, n)
	for i := range b {
		seed = seed*1664525 + 1013904223
		b[i] = byte(seed >> 24)
	}
	return string(b)
}

// with is s with other bytes from offset at on.
func with(s string, at int, other string) string { return s[:at] + other + s[at+len(other):] }

// summed is a packet of version 4 with the right checksum of a header of so
// many bytes, by a division.
func summed(s string, size int) string {
	s = with(s, 10, "\x00\x00")
	n := 0
	for i := 0; i+1 < size; i += 2 {
		n += int(s[i])*256 + int(s[i+1])
	}
	return with(s, 10, word(65534-(n-1)%65535))
}

// packetBytes has the bytes of a valid packet.
func packetBytes(p api.Ip) string {
	if p.V == 6 {
		return long(6<<28+p.Class<<20+p.Label) + word(len(p.Body)) + one(p.Proto) + one(p.Hops) + p.Src + p.Dst + p.Body
	}
	size := 20 + len(p.Options)
	s := one(64+size/4) + one(p.Class) + word(size+len(p.Body)) + word(p.Id) + word(p.Flags*8192+p.Off)
	return summed(s+one(p.Hops)+one(p.Proto)+"\x00\x00"+p.Src+p.Dst+p.Options+p.Body, size)
}

// framed has the bytes of a frame without a tag, of this type.
func framed(frameType int, body string) string { return macs + word(frameType) + body }

// frameBytes has the bytes of a frame of p's type, without a tag.
func frameBytes(p api.Ip) string { return framed(typeOf(p.V), packetBytes(p)) }

func typeOf(v int) int { return map[int]int{4: 0x0800, 6: 0x86dd}[v] }

// tagged is a frame with a tag whose number is v, where it had none.
func tagged(s string, v int) string { return s[:12] + "\x81\x00" + word(v) + s[12:] }

// tags are numbers of valid tags: of the VLANs at the edges, and of such as
// look like types, with several priorities.
func tags() []int {
	var all []int
	for _, vlan := range []int{0, 1, 5, 0x600, 0x800, 0x806, 0xfff - 1} {
		for _, pri := range []int{0, 1, 4, 7} {
			all = append(all, pri<<13|vlan)
		}
	}
	return all
}

// wantOf is what Of is held against, for a valid packet in a frame of its type.
func wantOf(p api.Ip) api.Flow {
	bare := map[int]int{4: api.FlowIp4, 6: api.FlowIp6}
	whole := map[[2]int]int{{4, 6}: api.FlowTcp4, {4, 17}: api.FlowUdp4, {6, 6}: api.FlowTcp6, {6, 17}: api.FlowUdp6}
	kind, known := whole[[2]int{p.V, p.Proto}]
	if known && p.Off == 0 && p.Flags%2 == 0 && len(p.Body) > 3 {
		return api.Flow{Kind: kind, Key: p.Src + p.Dst + p.Body[:4]}
	}
	return api.Flow{Kind: bare[p.V], Key: p.Src + p.Dst}
}

// short is s as a message shows it.
func short(s string) string {
	if len(s) <= 100 {
		return fmt.Sprintf("%x", s)
	}
	return fmt.Sprintf("%x.. of %d bytes", s[:100], len(s))
}

func checkOf(t *testing.T, s string, want api.Flow) {
	t.Helper()
	if f := flow.Of(s); f != want {
		t.Errorf("Of(%s): %d, %x, want %d, %x", short(s), f.Kind, f.Key, want.Kind, want.Key)
	}
}

// checkNone asks for FlowNone and no key, of s and of s with tags (where s has
// room for one behind its addresses).
func checkNone(t *testing.T, s string) {
	t.Helper()
	checkOf(t, s, api.Flow{Kind: api.FlowNone})
	if len(s) >= 12 {
		for _, v := range tags() {
			checkOf(t, tagged(s, v), api.Flow{Kind: api.FlowNone})
		}
	}
}

// checkPacket asks for p's flow, of its frame without a tag and with one.
func checkPacket(t *testing.T, p api.Ip) {
	t.Helper()
	s := frameBytes(p)
	checkOf(t, s, wantOf(p))
	checkOf(t, tagged(s, 0xa005), wantOf(p))
}

func checkLess(t *testing.T, f, want api.Flow) {
	t.Helper()
	if g := flow.Less(f); g != want {
		t.Errorf("Less(%d, %x): %d, %x, want %d, %x", f.Kind, f.Key, g.Kind, g.Key, want.Kind, want.Key)
	}
}

func unhex(t *testing.T, text string) string {
	t.Helper()
	b, err := hex.DecodeString(text)
	if err != nil {
		t.Fatal(err)
	}
	return string(b)
}

func protos() []int { return []int{0, 1, 5, 6, 7, 16, 17, 18, 255} }

func bodies() []string {
	return []string{"", "\x00", "a", "ab", "abc", "\x00\x00\x00", "abcd", "\x00\x00\x00\x00", "\xff\xff\xff\xff", "abcde", ports + "\x00\x09\x00\x00h", scattered(20, 1), scattered(1000, 2)}
}

// packets are valid ones of both versions, in every combination of what the
// flow depends on.
func packets() []api.Ip {
	var all []api.Ip
	for _, proto := range protos() {
		for i, body := range bodies() {
			q := api.Ip{V: 6, Src: scattered(16, uint32(i)), Dst: scattered(16, uint32(proto)), Proto: proto, Hops: i, Class: 255 - i, Label: 1<<20 - 1 - i, Body: body}
			all = append(all, q)
			for _, off := range []int{0, 1, 8191} {
				for flags := range 4 {
					for _, options := range []string{"", "\x01\x01\x01\x00", scattered(40, 3)} {
						p := api.Ip{V: 4, Src: scattered(4, uint32(i)), Dst: scattered(4, uint32(proto)), Proto: proto, Hops: i, Class: 255 - i, Id: i << 9, Flags: flags, Off: off, Options: options, Body: body}
						all = append(all, p)
					}
				}
			}
		}
	}
	return all
}

// P9.1

func TestOfExamples(t *testing.T) {
	checkOf(t, framed(0x0806, packetBytes(four())), api.Flow{})
	p := api.Ip{V: 4, Src: src4, Dst: dst4, Proto: api.ProtoUdp, Hops: 64}
	for _, seg := range []api.Seg{{Src: 1, Dst: 2}, {Src: 1, Dst: 2, Body: "hi"}, {Src: 1, Dst: 2, Body: "hi", NoSum: true}} {
		body, e := segment.Build(p, seg)
		if e != api.OK {
			t.Fatal(e)
		}
		p.Body = body
		checkOf(t, frameBytes(p), api.Flow{Kind: api.FlowUdp4, Key: "\x0a\x00\x00\x01\x0a\x00\x00\x02\x00\x01\x00\x02"})
	}
}

// Frames whose bytes are all written out, TCP and UDP in both versions.
func TestOfWrittenOut(t *testing.T) {
	head4 := "\x45\x00\x00\x18\x00\x00\x40\x00\x40"
	head6 := "\x60\x00\x00\x00\x00\x04"
	tag := "\x81\x00\x60\x05"
	for _, x := range []struct {
		s    string
		want api.Flow
	}{
		{"\x08\x00" + head4 + "\x06\x26\xde" + src4 + dst4 + ports, api.Flow{Kind: api.FlowTcp4, Key: src4 + dst4 + ports}},
		{"\x08\x00" + head4 + "\x11\x26\xd3" + src4 + dst4 + ports, api.Flow{Kind: api.FlowUdp4, Key: src4 + dst4 + ports}},
		{"\x08\x00" + head4 + "\x01\x26\xe3" + src4 + dst4 + ports, api.Flow{Kind: api.FlowIp4, Key: src4 + dst4}},
		{"\x86\xdd" + head6 + "\x06\x40" + src6 + dst6 + ports, api.Flow{Kind: api.FlowTcp6, Key: src6 + dst6 + ports}},
		{"\x86\xdd" + head6 + "\x11\x40" + src6 + dst6 + ports, api.Flow{Kind: api.FlowUdp6, Key: src6 + dst6 + ports}},
		{"\x86\xdd" + head6 + "\x3a\x40" + src6 + dst6 + ports, api.Flow{Kind: api.FlowIp6, Key: src6 + dst6}},
	} {
		checkOf(t, macs+x.s, x.want)
		checkOf(t, macs+tag+x.s, x.want)
	}
}

// Whole segments, as they are sent.
func TestOfSegments(t *testing.T) {
	for _, p := range []api.Ip{four(), six()} {
		for _, proto := range []int{api.ProtoTcp, api.ProtoUdp} {
			for _, body := range []string{"", "h", "hello", scattered(1400, 5)} {
				p.Proto, p.Body = proto, ""
				s, e := segment.Build(p, api.Seg{Src: 0x1234, Dst: 0xabcd, Body: body})
				if e != api.OK {
					t.Fatal(e)
				}
				p.Body = s
				want := wantOf(p)
				if want.Key != p.Src+p.Dst+ports {
					t.Fatalf("%x", want.Key)
				}
				checkPacket(t, p)
			}
		}
	}
}

func TestOfPackets(t *testing.T) {
	for _, p := range packets() {
		checkPacket(t, p)
	}
}

// Every number of Proto, in both versions.
func TestOfProtos(t *testing.T) {
	for _, p := range []api.Ip{four(), six()} {
		for p.Proto = range 256 {
			checkPacket(t, p)
			bare := map[int]int{4: api.FlowIp4, 6: api.FlowIp6}[p.V]
			if kind := flow.Of(frameBytes(p)).Kind; (kind == bare) == (p.Proto == 6 || p.Proto == 17) {
				t.Errorf("version %d, proto %d: kind %d", p.V, p.Proto, kind)
			}
		}
	}
}

// A bit of Off, wherever it is, and the least bit of Flags make a fragment;
// the other bit of Flags does not.
func TestOfFragments(t *testing.T) {
	for _, proto := range []int{6, 17} {
		p := four()
		p.Proto = proto
		for p.Flags = range 4 {
			for _, off := range []int{0, 1, 2, 4, 8, 16, 32, 64, 128, 256, 512, 1024, 2048, 4096, 8190, 8191} {
				p.Off = off
				want := api.Flow{Kind: api.FlowIp4, Key: src4 + dst4}
				if off == 0 && (p.Flags == 0 || p.Flags == 2) {
					want = api.Flow{Kind: map[int]int{6: api.FlowTcp4, 17: api.FlowUdp4}[proto], Key: src4 + dst4 + ports}
				}
				checkOf(t, frameBytes(p), want)
			}
		}
	}
}

// Bodies of every number of bytes, up to the longest that a frame holds.
func TestOfBodies(t *testing.T) {
	for _, p := range []api.Ip{four(), six()} {
		room := map[int]int{4: 1518 - 14 - 20, 6: 1518 - 14 - 40}[p.V]
		for _, proto := range []int{6, 17, 1} {
			for n := range room + 1 {
				p.Proto, p.Body = proto, scattered(n, uint32(n))
				checkOf(t, frameBytes(p), wantOf(p))
			}
			p.Body = scattered(room+1, 1)
			checkNone(t, frameBytes(p))
		}
	}
}

// The ports are those behind the options, and what follows them counts for
// nothing.
func TestOfOptions(t *testing.T) {
	p := four()
	for n := 0; n <= 40; n += 4 {
		p.Options = scattered(n, uint32(n))
		checkOf(t, frameBytes(p), api.Flow{Kind: api.FlowUdp4, Key: src4 + dst4 + ports})
		q := p
		q.Body = "abc"
		checkOf(t, frameBytes(q), api.Flow{Kind: api.FlowIp4, Key: src4 + dst4})
	}
}

// Checksums of segments are not checked, nor anything behind the ports.
func TestOfWrongSegments(t *testing.T) {
	for _, p := range []api.Ip{four(), six()} {
		for _, proto := range []int{api.ProtoTcp, api.ProtoUdp} {
			p.Proto, p.Body = proto, ""
			s, e := segment.Build(p, api.Seg{Src: 0x1234, Dst: 0xabcd, Body: "hello"})
			if e != api.OK {
				t.Fatal(e)
			}
			p.Body = s[:len(s)-1] + "p"
			if _, e := segment.Parse(p); e != api.ErrSegSum {
				t.Fatal(e)
			}
			checkPacket(t, p)
			for _, body := range []string{ports, ports + "\x00", ports + strings.Repeat("\x00", 4), ports + strings.Repeat("\xff", 30), s[:len(s)-1]} {
				p.Body = body
				if _, e := segment.Parse(p); e == api.OK {
					t.Fatalf("%x is a segment", body)
				}
				want := wantOf(p)
				if want.Key != p.Src+p.Dst+ports {
					t.Fatalf("%x", want.Key)
				}
				checkPacket(t, p)
			}
		}
	}
}

// What a flow is not made of makes no difference to it.
func TestOfOtherFields(t *testing.T) {
	for _, p := range []api.Ip{four(), six()} {
		want := wantOf(p)
		for _, v := range []int{0, 1, 6, 17, 128, 255} {
			q := p
			q.Hops = v
			checkOf(t, frameBytes(q), want)
			q = p
			q.Class = v
			checkOf(t, frameBytes(q), want)
			q = p
			if p.V == 4 {
				q.Id = 257 * v
			} else {
				q.Label = 4097 * v
			}
			checkOf(t, frameBytes(q), want)
			checkOf(t, strings.Repeat(one(v), 12)+frameBytes(p)[12:], want)
		}
	}
}

// The source comes ahead of the destination: the two ways of a connection are
// two flows. Every byte of the key is one of the packet's.
func TestOfKeys(t *testing.T) {
	for _, p := range []api.Ip{four(), six()} {
		s := frameBytes(p)
		n := len(p.Src)
		back := p
		back.Src, back.Dst, back.Body = p.Dst, p.Src, ports[2:]+ports[:2]
		checkPacket(t, back)
		if flow.Of(s) == flow.Of(frameBytes(back)) {
			t.Errorf("version %d: one flow both ways", p.V)
		}
		for i := range 2*n + 4 {
			key := []byte(p.Src + p.Dst + ports)
			key[i] ^= 0x81
			q := p
			q.Src, q.Dst, q.Body = string(key[:n]), string(key[n:2*n]), string(key[2*n:])+"hello"
			checkOf(t, frameBytes(q), api.Flow{Kind: flow.Of(s).Kind, Key: string(key)})
		}
	}
}

func TestOfEmpty(t *testing.T) { checkOf(t, "", api.Flow{}) }

// Bytes that are no frame, for each of the errors of eth.Parse.
func TestOfNoFrame(t *testing.T) {
	for _, p := range []api.Ip{four(), six()} {
		s := frameBytes(p)
		u := tagged(s, 5)
		big := p // too long with a tag alone
		big.Body = ports + scattered(1519-len(u)+len("hello"), 1)
		for i, x := range []struct {
			s    string
			want api.Errno
		}{
			{s[:1], api.ErrEthShort},
			{s[:12], api.ErrEthShort},
			{s[:13], api.ErrEthShort},
			{u[:14], api.ErrEthShort},
			{u[:15], api.ErrEthShort},
			{u[:16], api.ErrEthShort},
			{u[:17], api.ErrEthShort},
			{tagged(frameBytes(big), 5), api.ErrEthForm},
			{s + scattered(1519, 1), api.ErrEthForm},
			{tagged(s, 0x1005), api.ErrEthForm},
			{tagged(s, 0xf005), api.ErrEthForm},
			{tagged(s, 0x0fff), api.ErrEthForm},
			{tagged(s, 0xefff), api.ErrEthForm},
			{tagged(u, 5), api.ErrEthForm},
			{framed(0, packetBytes(p)), api.ErrEthForm},
			{framed(0x05ff, packetBytes(p)), api.ErrEthForm},
			{framed(len(packetBytes(p)), packetBytes(p)), api.ErrEthForm},
		} {
			if _, e := eth.Parse(x.s); e != x.want {
				t.Fatalf("%d: %d", i, e)
			}
			checkOf(t, x.s, api.Flow{})
		}
		checkOf(t, frameBytes(big), wantOf(big))
	}
}

func TestOfTypes(t *testing.T) {
	for _, p := range []api.Ip{four(), six()} {
		s := packetBytes(p)
		checkOf(t, framed(typeOf(p.V), s), wantOf(p))
		for _, other := range []int{0x0600, 0x07ff, 0x0801, 0x0806, 0x86dc, 0x86de, 0x0008, 0xdd86, 0x0006, 0x8035, 0x88a8, 0xffff} {
			checkNone(t, framed(other, s))
		}
		checkNone(t, framed(typeOf(10-p.V), s))
		for other := range 1 << 16 {
			if other != typeOf(p.V) {
				checkOf(t, framed(other, s), api.Flow{})
			}
		}
	}
}

// A version that is not the one that the type says, of packets of all kinds.
func TestOfOtherVersion(t *testing.T) {
	for i, p := range packets() {
		s := framed(typeOf(10-p.V), packetBytes(p))
		checkOf(t, s, api.Flow{})
		checkOf(t, tagged(s, tags()[i%len(tags())]), api.Flow{})
	}
}

// Bodies that are no packet, for each of the errors of ip.Parse, in frames of
// both types.
func TestOfNoPacket(t *testing.T) {
	s, u := packetBytes(four()), packetBytes(six())
	withOptions := four()
	withOptions.Options = "\x01\x01\x01\x00"
	o := packetBytes(withOptions)
	for i, x := range []struct {
		s    string
		want api.Errno
	}{
		{"", api.ErrIpShort},
		{s[:1], api.ErrIpShort},
		{s[:19], api.ErrIpShort},
		{o[:23], api.ErrIpShort},
		{u[:39], api.ErrIpShort},
		{"\x00" + s[1:], api.ErrIpForm},
		{"\x55" + s[1:], api.ErrIpForm},
		{"\xff", api.ErrIpForm},
		{summed("\x44"+s[1:], 20), api.ErrIpForm},
		{summed(with(s, 6, "\x80"), 20), api.ErrIpForm},
		{s + "\x00", api.ErrIpForm},
		{s[:len(s)-1], api.ErrIpForm},
		{u + "\x00", api.ErrIpForm},
		{u[:len(u)-1], api.ErrIpForm},
		{with(s, 10, "\x00\x00"), api.ErrIpSum},
		{with(s, 8, "\x3f"), api.ErrIpSum},
		{with(o, 20, "\x02"), api.ErrIpSum},
	} {
		if _, e := ip.Parse(x.s); e != x.want {
			t.Fatalf("%d: %d", i, e)
		}
		checkNone(t, framed(0x0800, x.s))
		checkNone(t, framed(0x86dd, x.s))
	}
}

// Frames that are too short, wherever they end.
func TestOfCut(t *testing.T) {
	for _, p := range []api.Ip{four(), six()} {
		for _, s := range []string{frameBytes(p), tagged(frameBytes(p), 5)} {
			for n := range s {
				checkOf(t, s[:n], api.Flow{})
			}
			checkOf(t, s, wantOf(p))
		}
	}
}

// expected is the flow of any bytes, by what the layers below say of them.
func expected(s string) api.Flow {
	f, e := eth.Parse(s)
	p, e2 := ip.Parse(f.Body)
	if e != api.OK || e2 != api.OK || f.Type != typeOf(p.V) {
		return api.Flow{}
	}
	return wantOf(p)
}

// Frames with each of their bits changed, and bytes without any order.
func TestOfAnyBytes(t *testing.T) {
	for _, p := range []api.Ip{four(), six()} {
		for _, s := range []string{frameBytes(p), tagged(frameBytes(p), 0x6005)} {
			for bit := range 8 * len(s) {
				u := with(s, bit/8, one(int(s[bit/8])^128>>(bit%8)))
				checkOf(t, u, expected(u))
			}
		}
	}
	for i := range 3000 {
		s := scattered(i%120, uint32(i))
		checkOf(t, s, expected(s))
		checkOf(t, framed(0x0800, s), expected(framed(0x0800, s)))
		checkOf(t, framed(0x86dd, "\x60"+s), expected(framed(0x86dd, "\x60"+s)))
	}
	for _, n := range []int{1517, 1518, 1519, 65536, 1 << 20} {
		checkOf(t, strings.Repeat("\x00", n), api.Flow{})
		checkOf(t, strings.Repeat("\xff", n), api.Flow{})
	}
}

// P9.2

func TestLessExamples(t *testing.T) {
	checkLess(t, api.Flow{Kind: api.FlowTcp4, Key: src4 + dst4 + ports}, api.Flow{Kind: api.FlowIp4, Key: src4 + dst4})
	checkLess(t, api.Flow{Kind: api.FlowUdp4, Key: src4 + dst4 + ports}, api.Flow{Kind: api.FlowIp4, Key: src4 + dst4})
	checkLess(t, api.Flow{Kind: api.FlowTcp6, Key: src6 + dst6 + ports}, api.Flow{Kind: api.FlowIp6, Key: src6 + dst6})
	checkLess(t, api.Flow{Kind: api.FlowUdp6, Key: src6 + dst6 + ports}, api.Flow{Kind: api.FlowIp6, Key: src6 + dst6})
	checkLess(t, api.Flow{Kind: api.FlowIp4, Key: src4 + dst4}, api.Flow{Kind: api.FlowIp4, Key: src4 + dst4})
	checkLess(t, api.Flow{Kind: api.FlowIp6, Key: src6 + dst6}, api.Flow{Kind: api.FlowIp6, Key: src6 + dst6})
	checkLess(t, api.Flow{}, api.Flow{})
}

// keySizes are the numbers of bytes of keys, those that a flow may have and
// those around them.
func keySizes() []int {
	return []int{0, 1, 2, 7, 8, 9, 11, 12, 13, 31, 32, 33, 35, 36, 37, 40, 100, 65536, 1 << 20}
}

func TestLessCuts(t *testing.T) {
	for _, x := range []struct{ kind, less, size int }{
		{api.FlowTcp4, api.FlowIp4, 8},
		{api.FlowUdp4, api.FlowIp4, 8},
		{api.FlowTcp6, api.FlowIp6, 32},
		{api.FlowUdp6, api.FlowIp6, 32},
	} {
		for _, n := range keySizes() {
			key := scattered(n, uint32(n))
			want := key
			if n > x.size {
				want = key[:x.size]
			}
			checkLess(t, api.Flow{Kind: x.kind, Key: key}, api.Flow{Kind: x.less, Key: want})
		}
	}
}

// All other kinds, also those that there are not, are left as they are.
func TestLessLeaves(t *testing.T) {
	kinds := []int{api.FlowNone, api.FlowIp4, api.FlowIp6, -1, -2, -3, -5, -6, api.FlowKinds, api.FlowKinds + 1, 9, 256 + 2, 1<<32 + 5, math.MinInt, math.MinInt + 2, math.MaxInt}
	for _, kind := range kinds {
		for _, n := range keySizes() {
			f := api.Flow{Kind: kind, Key: scattered(n, uint32(n))}
			checkLess(t, f, f)
		}
	}
}

// Less of the flow of a frame is the flow that the frame would have if it were
// a fragment (which only version 4 has), or of another protocol.
func TestLessOfFrames(t *testing.T) {
	for _, p := range packets() {
		f := flow.Of(frameBytes(p))
		other := p
		other.Proto = 1
		checkLess(t, f, flow.Of(frameBytes(other)))
		checkLess(t, flow.Less(f), flow.Less(f))
		if p.V == 4 {
			other = p
			other.Off = 5
			checkLess(t, f, flow.Of(frameBytes(other)))
		}
	}
}

func TestHashExamples(t *testing.T) {
	key := unhex(t, exampleKey)
	for _, x := range []struct {
		src, dst     string
		sport, dport int
		bare, ports  uint32
	}{
		{"66.9.149.187", "161.142.100.80", 2794, 1766, 0x323e8fc2, 0x51ccc178},
		{"3ffe:2501:200:1fff::7", "3ffe:2501:200:3::1", 2794, 1766, 0x2cc18cd5, 0x40207d3d},
	} {
		src, dst := netip.MustParseAddr(x.src), netip.MustParseAddr(x.dst)
		p := api.Ip{V: 4, Src: string(src.AsSlice()), Dst: string(dst.AsSlice()), Proto: 6, Body: word(x.sport) + word(x.dport)}
		if src.Is6() {
			p.V = 6
		}
		f := flow.Of(frameBytes(p))
		if h, e := flow.Hash(key, f); h != x.ports || e != api.OK {
			t.Errorf("%s, with ports: %#x, %d, want %#x", x.src, h, e, x.ports)
		}
		if h, e := flow.Hash(key, flow.Less(f)); h != x.bare || e != api.OK {
			t.Errorf("%s, without ports: %#x, %d, want %#x", x.src, h, e, x.bare)
		}
	}
	if h, e := flow.Hash("abcd", api.Flow{Key: "\xc0"}); h != 0xa3a6a5ac || e != api.OK {
		t.Errorf("%#x, %d", h, e)
	}
}

// Keys of all lengths, those that are errors among them, with Keys of all
// lengths and every kind: the kind makes no difference.
func TestHashAsToeplitz(t *testing.T) {
	for _, n := range []int{0, 1, 3, 4, 5, 8, 12, 39, 40, 41, 51, 52, 53, 100, 256, 260} {
		for _, key := range []string{scattered(n, 4), strings.Repeat("\x00", n), strings.Repeat("\xff", n)} {
			for _, size := range []int{0, 1, 4, 8, 12, 32, 36, 37, 40, 52, 53, 100, 2000} {
				for _, kind := range []int{-1, 0, 1, 2, 3, 4, 5, 6, 7, math.MinInt, math.MaxInt} {
					f := api.Flow{Kind: kind, Key: scattered(size, uint32(size))}
					want, we := toeplitz.Hash(key, f.Key)
					if h, e := flow.Hash(key, f); h != want || e != we {
						t.Errorf("Hash(%s, {%d, %s}): %#x, %d, want %#x, %d", short(key), kind, short(f.Key), h, e, want, we)
					}
				}
			}
		}
	}
}

// A key that does not have 4 to 52 bytes: whatever the flow, an error and 0.
func TestHashWrongKey(t *testing.T) {
	for _, f := range []api.Flow{{}, {Key: "\xff"}, {Kind: api.FlowIp4, Key: src4 + dst4}, {Kind: api.FlowUdp6, Key: src6 + dst6 + ports}, {Kind: 99, Key: scattered(100, 1)}} {
		for _, n := range []int{0, 1, 3, 53, 54, 260, 65540} {
			if h, e := flow.Hash(strings.Repeat("k", n), f); h != 0 || e != api.ErrHashKey {
				t.Errorf("a key of %d bytes: %#x, %d", n, h, e)
			}
		}
		for _, n := range []int{4, 5, 40, 51, 52} {
			if _, e := flow.Hash(strings.Repeat("k", n), f); e != api.OK {
				t.Errorf("a key of %d bytes: %d", n, e)
			}
		}
	}
}

// P9.3

// otherFrames are such as have no flow, or are none, with 14 bytes at least and
// room for a tag.
func otherFrames() []string {
	s, u := packetBytes(four()), packetBytes(six())
	return []string{
		framed(0x0800, ""), framed(0x86dd, ""), framed(0x0806, s), framed(0x86de, u), framed(0x86dd, s), framed(0x0800, u),
		framed(0x05ff, s), framed(0x0800, s[:len(s)-1]), framed(0x0800, with(s, 10, "\x00\x00")), framed(0x86dd, u+"\x00"),
	}
}

func TestTags(t *testing.T) {
	all := otherFrames()
	for i, p := range packets() {
		if i%7 == 0 || len(p.Body) < 6 {
			all = append(all, frameBytes(p))
		}
	}
	for _, p := range []api.Ip{four(), six()} { // with a tag, the frame is as long as may be
		p.Body = scattered(1518-18-len(packetBytes(p))+len(p.Body), 1)
		all = append(all, frameBytes(p))
	}
	kinds := map[int]bool{}
	for _, s := range all {
		want := flow.Of(s)
		kinds[want.Kind] = true
		for _, v := range tags() {
			checkOf(t, tagged(s, v), want)
		}
	}
	if len(kinds) != api.FlowKinds {
		t.Errorf("frames of %d kinds", len(kinds))
	}
}

// Tags that are added, changed and removed by eth.Tag.
func TestTagsByEth(t *testing.T) {
	for i, p := range packets() {
		s := frameBytes(p)
		want := wantOf(p)
		for _, vlan := range []int{0, i % 4095, 4094, -1} {
			u, e := eth.Tag(s, vlan)
			if e != api.OK {
				t.Fatal(e)
			}
			checkOf(t, u, want)
			s = u
		}
	}
}

func TestKeySizes(t *testing.T) {
	sizes := map[int]int{
		api.FlowNone: 0, api.FlowIp4: 8, api.FlowTcp4: 12, api.FlowUdp4: 12,
		api.FlowIp6: 32, api.FlowTcp6: 36, api.FlowUdp6: 36,
	}
	seen := map[int]bool{}
	all := append(otherFrames(), "", "short")
	for _, p := range packets() {
		all = append(all, frameBytes(p), tagged(frameBytes(p), 7))
	}
	for _, s := range all {
		for _, f := range []api.Flow{flow.Of(s), flow.Less(flow.Of(s))} {
			seen[f.Kind] = true
			if n, ok := sizes[f.Kind]; !ok || len(f.Key) != n {
				t.Errorf("%s: kind %d, a key of %d bytes", short(s), f.Kind, len(f.Key))
			}
		}
	}
	if len(seen) != api.FlowKinds {
		t.Errorf("flows of %d kinds", len(seen))
	}
}

// R5: earlier calls, of other frames or of none, make no difference.
func TestOfAgain(t *testing.T) {
	s, u := frameBytes(four()), frameBytes(six())
	for range 3 {
		checkOf(t, s, api.Flow{Kind: api.FlowUdp4, Key: src4 + dst4 + ports})
		checkOf(t, s[:20], api.Flow{})
		checkOf(t, u, api.Flow{Kind: api.FlowUdp6, Key: src6 + dst6 + ports})
		checkOf(t, "", api.Flow{})
	}
}
