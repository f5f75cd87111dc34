package rss_test

import (
	"encoding/hex"
	"fmt"
	"math"
	"slices"
	"strings"
	"testing"

	"aqueduct/api"
	"aqueduct/eth"
	"aqueduct/ip"
	"aqueduct/rss"
	"aqueduct/segment"
)

const (
	src4  = "\x42\x09\x95\xbb"
	dst4  = "\xa1\x8e\x64\x50"
	src6  = "\x3f\xfe\x25\x01\x02\x00\x1f\xff\x00\x00\x00\x00\x00\x00\x00\x07"
	dst6  = "\x3f\xfe\x25\x01\x02\x00\x00\x03\x00\x00\x00\x00\x00\x00\x00\x01"
	ports = "\x0a\xea\x06\xe6" // 2794 and 1766

	// exampleKey is the key of chapter 3's examples, in hexadecimal; of its
	// examples and of the published ones for version 6 come these hashes.
	exampleKey = "6d5a56da255b0ec24167253d43a38fb0d0ca2bcbae7b30b477cb2da38030f20c6a42b73bbeac01fa"
	bareHash4  = 0x323e8fc2
	portsHash4 = 0x51ccc178
	bareHash6  = 0x2cc18cd5
	portsHash6 = 0x40207d3d
)

// ends are numbers at the ends of an int, and such as are small ones where
// their upper bits are lost.
func ends() []int {
	return []int{math.MinInt, math.MinInt + 1, math.MinInt + 2, math.MinInt32, -1 << 32, -256, 256, 258, 1 << 16, 1<<32 - 2, 1 << 32, 1<<32 + 2, math.MaxInt - 1, math.MaxInt}
}

// around are the numbers from low to high, and those of ends.
func around(low, high int) []int {
	all := ends()
	for v := low; v <= high; v++ {
		all = append(all, v)
	}
	return all
}

// upTo are the numbers from 0 to high.
func upTo(high int) []int {
	all := make([]int, high+1)
	for i := range all {
		all[i] = i
	}
	return all
}

// scattered has n bytes without a pattern.
func scattered(n int, seed uint32) string {
	b := make([]byte, n)
	for i := range b {
		seed = seed*1664525 + 1013904223
		b[i] = byte(seed >> 24)
	}
	return string(b)
}

// filled is a table of n elements without a pattern, each from 0 to most.
func filled(n, most int, seed uint32) []int {
	table := make([]int, n)
	for i, b := range []byte(scattered(n, seed)) {
		table[i] = int(b) % (most + 1)
	}
	return table
}

// constant is a table of n elements that are all q.
func constant(n, q int) []int { return slices.Repeat([]int{q}, n) }

func unhex(text string) string {
	b, err := hex.DecodeString(text)
	if err != nil {
		panic(err)
	}
	return string(b)
}

// valid are rules that Check accepts.
func valid() api.Rss {
	return api.Rss{Kinds: 126, Table: []int{1, 7, 2, 6, 3, 5, 4, 1}, Key: unhex(exampleKey), Default: 5}
}

func packetBytes(p api.Ip) string {
	s, e := ip.Build(p)
	if e != api.OK {
		panic(e)
	}
	return s
}

// framed has the bytes of a frame of this type, without a tag if vlan is -1.
func framed(frameType, vlan int, body string) string {
	f := api.Eth{Dst: "ABCDEF", Src: "GHIJKL", Vlan: vlan, Type: frameType, Body: body}
	if vlan >= 0 {
		f.Pri = vlan % 8
	}
	s, e := eth.Build(f)
	if e != api.OK {
		panic(e)
	}
	return s
}

func typeOf(v int) int { return map[int]int{4: 0x0800, 6: 0x86dd}[v] }

// frameBytes has the bytes of a frame of p's type.
func frameBytes(p api.Ip, vlan int) string { return framed(typeOf(p.V), vlan, packetBytes(p)) }

func four(proto int, body string) api.Ip {
	return api.Ip{V: 4, Src: src4, Dst: dst4, Proto: proto, Hops: 64, Body: body}
}

func six(proto int, body string) api.Ip {
	return api.Ip{V: 6, Src: src6, Dst: dst6, Proto: proto, Hops: 64, Body: body}
}

// sample is a frame, the kind and the key of its flow, and those of the flow
// without its ports, all written out.
type sample struct {
	name     string
	s        string
	kind     int
	key      string
	bareKind int
	bareKey  string
}

// twice are a packet's frames without a tag and with one.
func twice(name string, p api.Ip, kind int, key string, bareKind int, bareKey string) []sample {
	return []sample{
		{name, frameBytes(p, -1), kind, key, bareKind, bareKey},
		{name + " with a tag", frameBytes(p, 5), kind, key, bareKind, bareKey},
	}
}

// samples are frames of every kind of flow.
func samples() []sample {
	addrs4, addrs6 := src4+dst4, src6+dst6
	fragment := four(6, ports+"more")
	fragment.Off = 1
	first := four(17, ports+"more")
	first.Flags = 1
	return slices.Concat(
		none(),
		twice("tcp4", four(6, ports+"more"), api.FlowTcp4, addrs4+ports, api.FlowIp4, addrs4),
		twice("udp4", four(17, ports+"more"), api.FlowUdp4, addrs4+ports, api.FlowIp4, addrs4),
		twice("tcp6", six(6, ports+"more"), api.FlowTcp6, addrs6+ports, api.FlowIp6, addrs6),
		twice("udp6", six(17, ports+"more"), api.FlowUdp6, addrs6+ports, api.FlowIp6, addrs6),
		twice("another protocol of version 4", four(1, ports+"more"), api.FlowIp4, addrs4, api.FlowIp4, addrs4),
		twice("another protocol of version 6", six(58, ports+"more"), api.FlowIp6, addrs6, api.FlowIp6, addrs6),
		twice("tcp4 without ports", four(6, "abc"), api.FlowIp4, addrs4, api.FlowIp4, addrs4),
		twice("udp6 without ports", six(17, "abc"), api.FlowIp6, addrs6, api.FlowIp6, addrs6),
		twice("an empty packet", four(17, ""), api.FlowIp4, addrs4, api.FlowIp4, addrs4),
		twice("a fragment", fragment, api.FlowIp4, addrs4, api.FlowIp4, addrs4),
		twice("the first fragment", first, api.FlowIp4, addrs4, api.FlowIp4, addrs4),
	)
}

// none are bytes that have no flow: such as are no frame, and frames that carry
// no packet of the version that their type says.
func none() []sample {
	p, q := packetBytes(four(17, ports)), packetBytes(six(17, ports))
	var all []sample
	for name, s := range map[string]string{
		"no bytes":             "",
		"thirteen bytes":       framed(0x0800, -1, "")[:13],
		"a tag that is cut":    framed(0x0800, 5, p)[:17],
		"too long a frame":     framed(0x0800, -1, p) + strings.Repeat("x", 1519),
		"a type of a length":   "ABCDEFGHIJKL\x00\x18" + p,
		"no body":              framed(0x0800, -1, ""),
		"another type":         framed(0x0806, -1, p),
		"another type, tagged": framed(0x0806, 5, p),
		"version 4 in type 6":  framed(0x86dd, -1, p),
		"version 6 in type 4":  framed(0x0800, 5, q),
		"version 4, cut":       framed(0x0800, -1, p[:len(p)-1]),
		"version 6, cut":       framed(0x86dd, 5, q[:len(q)-1]),
		"a wrong checksum":     framed(0x0800, -1, p[:8]+"\x3f"+p[9:]),
		"a version 5":          framed(0x0800, -1, "\x55"+p[1:]),
	} {
		all = append(all, sample{name: name, s: s})
	}
	slices.SortFunc(all, func(a, b sample) int { return strings.Compare(a.name, b.name) })
	return all
}

// hashOf is the Toeplitz hash, bit by bit.
func hashOf(key, s string) uint32 {
	bit := func(s string, i int) uint32 {
		if i/8 >= len(s) {
			return 0
		}
		return uint32(s[i/8]) >> (7 - i%8) & 1
	}
	h := uint32(0)
	for i := range 8 * len(s) {
		for k := range 32 {
			h ^= bit(s, i) * bit(key, i+k) << (31 - k)
		}
	}
	return h
}

// wantOf is what Choose is held against, for rules that are valid and queues
// from 1 to 8.
func wantOf(r api.Rss, x sample, queues int) int {
	hashed := map[int]bool{}
	for kind := 1; kind <= 6; kind++ {
		hashed[kind] = r.Kinds>>kind%2 == 1
	}
	q := r.Default
	if hashed[x.kind] {
		q = r.Table[hashOf(r.Key, x.key)%uint32(len(r.Table))]
	} else if hashed[x.bareKind] {
		q = r.Table[hashOf(r.Key, x.bareKey)%uint32(len(r.Table))]
	}
	if q >= queues {
		return 0
	}
	return q
}

// text is r as a message shows it.
func text(r api.Rss) string {
	key := fmt.Sprintf("%x", r.Key)
	if len(r.Key) > 60 {
		key = fmt.Sprintf("of %d bytes", len(r.Key))
	}
	return fmt.Sprintf("{Kinds %d, Table %v, Key %s, Default %d}", r.Kinds, r.Table, key, r.Default)
}

func checkCheck(t *testing.T, r api.Rss, ok bool) {
	t.Helper()
	want := api.ErrRssForm
	if ok {
		want = api.OK
	}
	if e := rss.Check(r); e != want {
		t.Errorf("Check(%s): %d, want %d", text(r), e, want)
	}
}

func checkChoose(t *testing.T, r api.Rss, x sample, queues, want int) {
	t.Helper()
	if q := rss.Choose(r, x.s, queues); q != want {
		t.Errorf("Choose(%s, %s, %d): %d, want %d", text(r), x.name, queues, q, want)
	}
}

// P11.1

func TestCheckNumbers(t *testing.T) {
	if api.ErrRssForm != 110 || api.MaxTable != 128 || api.MaxPairs != 8 {
		t.Error(api.ErrRssForm, api.MaxTable, api.MaxPairs)
	}
}

func TestCheckOrdinary(t *testing.T) {
	checkCheck(t, valid(), true)
	checkCheck(t, api.Rss{Table: []int{0}, Key: "abcd"}, true)
	checkCheck(t, api.Rss{Kinds: 1 << api.FlowUdp6, Table: filled(128, 7, 1), Key: scattered(52, 1), Default: 7}, true)
	checkCheck(t, api.Rss{}, false)
}

func TestCheckKinds(t *testing.T) {
	r := valid()
	for _, r.Kinds = range around(-300, 300) {
		checkCheck(t, r, r.Kinds >= 0 && r.Kinds <= 126 && r.Kinds%2 == 0)
	}
	for _, r.Kinds = range []int{0, 2, 4, 124, 126} {
		checkCheck(t, r, true)
	}
	for _, r.Kinds = range []int{-2, -1, 1, 125, 127, 128} {
		checkCheck(t, r, false)
	}
}

// Each bit of an int, alone and beside ones that may be.
func TestCheckKindsBits(t *testing.T) {
	r := valid()
	for bit := range 64 {
		ok := bit >= api.FlowIp4 && bit <= api.FlowUdp6
		for _, others := range []int{0, 2, 84, 126} {
			r.Kinds = others | 1<<bit
			checkCheck(t, r, ok)
		}
	}
}

func TestCheckTableSizes(t *testing.T) {
	r := valid()
	r.Table = nil
	checkCheck(t, r, false)
	r.Table = []int{}
	checkCheck(t, r, false)
	for _, n := range append(upTo(300), 512, 1024, 4096, 65536) {
		r.Table = make([]int, n)
		checkCheck(t, r, slices.Contains([]int{1, 2, 4, 8, 16, 32, 64, 128}, n))
		r.Table = filled(n, 7, uint32(n))
		checkCheck(t, r, slices.Contains([]int{1, 2, 4, 8, 16, 32, 64, 128}, n))
	}
}

// One element, at each place of a table, that may or may not be.
func TestCheckTableElements(t *testing.T) {
	r := valid()
	for n := 1; n <= 128; n *= 2 {
		r.Table = filled(n, 7, uint32(n))
		for i, old := range r.Table {
			for _, r.Table[i] = range around(-9, 16) {
				checkCheck(t, r, r.Table[i] >= 0 && r.Table[i] <= 7)
			}
			r.Table[i] = old
		}
	}
}

// What is behind a table's end does not count, though it is there.
func TestCheckTableSpare(t *testing.T) {
	r := valid()
	all := append(filled(8, 7, 1), constant(8, 99)...)
	for n, ok := range map[int]bool{1: true, 2: true, 3: false, 4: true, 7: false, 8: true, 9: false, 16: false} {
		r.Table = all[:n]
		checkCheck(t, r, ok)
	}
}

func TestCheckKey(t *testing.T) {
	r := valid()
	for _, n := range append(upTo(120), 255, 256, 260, 300, 65536, 65540, 1<<20) {
		for _, r.Key = range []string{scattered(n, 1), strings.Repeat("\x00", n), strings.Repeat("\xff", n)} {
			checkCheck(t, r, n >= 4 && n <= 52)
		}
	}
}

// The length of a key is that of its bytes, not of its runes.
func TestCheckKeyRunes(t *testing.T) {
	r := valid()
	r.Key = "\u00e4\u00f6"
	checkCheck(t, r, true)
	r.Key = strings.Repeat("\u20ac", 18)
	checkCheck(t, r, false)
}

func TestCheckDefault(t *testing.T) {
	r := valid()
	for _, r.Default = range around(-9, 300) {
		checkCheck(t, r, r.Default >= 0 && r.Default <= 7)
	}
}

// changes make rules that Check rejects, of whatever rules they are given.
func changes() []func(*api.Rss) {
	return []func(*api.Rss){
		func(r *api.Rss) { r.Kinds |= 1 },
		func(r *api.Rss) { r.Kinds |= 128 },
		func(r *api.Rss) { r.Kinds = -2 },
		func(r *api.Rss) { r.Kinds |= math.MinInt },
		func(r *api.Rss) { r.Table = nil },
		func(r *api.Rss) { r.Table = []int{1, 2, 3} },
		func(r *api.Rss) { r.Table = constant(256, 3) },
		func(r *api.Rss) { r.Table = []int{8, 2, 3, 4} },
		func(r *api.Rss) { r.Table = []int{1, 2, 3, 8} },
		func(r *api.Rss) { r.Table = []int{1, -1, 3, 4} },
		func(r *api.Rss) { r.Key = "abc" },
		func(r *api.Rss) { r.Key = scattered(53, 1) },
		func(r *api.Rss) { r.Key = "" },
		func(r *api.Rss) { r.Default = 8 },
		func(r *api.Rss) { r.Default = -1 },
	}
}

// Rules with one fault, and with two.
func TestCheckFaults(t *testing.T) {
	for _, change := range changes() {
		r := valid()
		change(&r)
		checkCheck(t, r, false)
		for _, other := range changes() {
			two := r
			other(&two)
			checkCheck(t, two, false)
		}
	}
}

// P11.2

// All frames without a flow have the queue Default, whatever the rules hash.
func TestChooseExamples(t *testing.T) {
	r := valid()
	for _, x := range none() {
		for r.Kinds = 0; r.Kinds <= 126; r.Kinds += 2 {
			for r.Default = range 8 {
				checkChoose(t, r, x, 8, r.Default)
			}
		}
	}
}

// Published hashes, by the last bits of which an element is taken.
func TestChoosePublished(t *testing.T) {
	table := []int{0, 1, 2, 3, 4, 5, 6, 7}
	r := api.Rss{Table: table, Key: unhex(exampleKey), Default: 6}
	tcp4, tcp6 := sample{name: "tcp4", s: frameBytes(four(6, ports), -1)}, sample{name: "tcp6", s: frameBytes(six(6, ports), 7)}
	for _, x := range []struct {
		s     sample
		kinds int
		want  int
	}{
		{tcp4, 1<<api.FlowTcp4 | 1<<api.FlowIp4, portsHash4 % 8},
		{tcp4, 1 << api.FlowTcp4, portsHash4 % 8},
		{tcp4, 1 << api.FlowIp4, bareHash4 % 8},
		{tcp4, 1 << api.FlowUdp4, 6},
		{tcp4, 1<<api.FlowIp6 | 1<<api.FlowTcp6, 6},
		{tcp6, 1<<api.FlowTcp6 | 1<<api.FlowIp6, portsHash6 % 8},
		{tcp6, 1 << api.FlowIp6, bareHash6 % 8},
		{tcp6, 1 << api.FlowUdp6, 6},
		{tcp6, 1<<api.FlowIp4 | 1<<api.FlowTcp4, 6},
		{tcp6, 0, 6},
	} {
		r.Kinds = x.kinds
		checkChoose(t, r, x.s, 8, x.want)
	}
}

// indexOf is the place in tables of n elements from which Choose takes the
// queue of s, in three digits from 0 to 7.
func indexOf(r api.Rss, s string, n int) int {
	index := 0
	for shift := 0; shift < 9; shift += 3 {
		r.Table = make([]int, n)
		for i := range r.Table {
			r.Table[i] = i >> shift & 7
		}
		index |= rss.Choose(r, s, 8) << shift
	}
	return index
}

func TestChooseIndex(t *testing.T) {
	for n := 1; n <= 128; n *= 2 {
		for _, x := range []struct {
			p    api.Ip
			hash uint32
		}{
			{four(6, ports), portsHash4},
			{four(17, ports), portsHash4},
			{four(1, ports), bareHash4},
			{six(6, ports), portsHash6},
			{six(17, ports), portsHash6},
			{six(1, ports), bareHash6},
		} {
			if i := indexOf(valid(), frameBytes(x.p, -1), n); i != int(x.hash)%n {
				t.Errorf("%#x, %d elements: index %d", x.hash, n, i)
			}
		}
	}
}

// Hashes of every size, those from 2^31 on among them.
func TestChooseIndexOfMany(t *testing.T) {
	r := valid()
	high, places := 0, map[uint32]bool{}
	for seed := range uint32(400) {
		r.Key = scattered(4+int(seed)%49, seed)
		p := four(6, scattered(4, seed))
		h := hashOf(r.Key, src4+dst4+p.Body)
		if i := indexOf(r, frameBytes(p, -1), 128); uint32(i) != h%128 {
			t.Errorf("%#x: index %d", h, i)
		}
		places[h%128] = true
		if h >= 1<<31 {
			high++
		}
	}
	if high < 100 || high > 300 || len(places) < 100 {
		t.Errorf("%d high hashes, %d places", high, len(places))
	}
}

// Every frame with all rules that are told apart by Kinds.
func TestChooseKinds(t *testing.T) {
	r := valid()
	r.Table = filled(128, 7, 3)
	for _, x := range samples() {
		for r.Kinds = 0; r.Kinds <= 126; r.Kinds += 2 {
			for queues := 1; queues <= 8; queues++ {
				checkChoose(t, r, x, queues, wantOf(r, x, queues))
			}
		}
	}
}

// A flow with ports goes by all of itself ahead of its addresses, and by these
// ahead of Default: here all three give other queues.
func TestChooseOrder(t *testing.T) {
	seen := map[int]bool{}
	for _, x := range samples() {
		if x.kind == x.bareKind {
			continue
		}
		seen[x.kind] = true
		r := valid()
		whole, bare := hashOf(r.Key, x.key)%16, hashOf(r.Key, x.bareKey)%16
		if whole == bare {
			t.Fatalf("%s: %d twice", x.name, whole)
		}
		r.Table = constant(16, 1)
		r.Table[whole], r.Table[bare], r.Default = 2, 3, 4
		all, own, addrs := 126, 1<<x.kind, 1<<x.bareKind
		for kinds, want := range map[int]int{all: 2, own: 2, own | addrs: 2, all - addrs: 2, addrs: 3, all - own: 3, all - own - addrs: 4, 0: 4} {
			r.Kinds = kinds
			checkChoose(t, r, x, 8, want)
		}
	}
	if len(seen) != 4 {
		t.Errorf("%d kinds with ports", len(seen))
	}
}

// A flow without ports goes by its own kind alone.
func TestChooseWithoutPorts(t *testing.T) {
	seen := map[int]bool{}
	for _, x := range samples() {
		if x.kind == api.FlowNone || x.kind != x.bareKind {
			continue
		}
		seen[x.kind] = true
		r := api.Rss{Table: []int{3}, Key: "abcd", Default: 4}
		for r.Kinds = 0; r.Kinds <= 126; r.Kinds += 2 {
			want := 4
			if r.Kinds>>x.kind%2 == 1 {
				want = 3
			}
			checkChoose(t, r, x, 8, want)
		}
	}
	if len(seen) != 2 {
		t.Errorf("%d kinds without ports", len(seen))
	}
}

// Queues that are not from 1 to 8: 0, whatever frame and rules.
func TestChooseQueues(t *testing.T) {
	r := valid()
	r.Table = filled(16, 7, 2)
	for _, x := range samples() {
		for _, queues := range around(-9, 20) {
			want := 0
			if queues >= 1 && queues <= 8 {
				want = wantOf(r, x, queues)
			}
			checkChoose(t, r, x, queues, want)
		}
	}
	one := api.Rss{Kinds: 126, Table: []int{7}, Key: "abcd", Default: 7}
	for _, x := range samples() {
		for queues, want := range map[int]int{-1: 0, 0: 0, 1: 0, 7: 0, 8: 7, 9: 0, 16: 0, math.MinInt: 0, math.MaxInt: 0} {
			checkChoose(t, one, x, queues, want)
		}
	}
}

// A queue that is just below queues, or not below it: of the table, by both
// hashes, and Default.
func TestChooseBelow(t *testing.T) {
	for _, x := range samples() {
		for q := range 8 {
			for queues := 1; queues <= 8; queues++ {
				want := q
				if q >= queues {
					want = 0
				}
				r := api.Rss{Kinds: 126, Table: constant(4, q), Key: "abcd", Default: q}
				checkChoose(t, r, x, queues, want)
				r.Kinds = 1<<api.FlowIp4 | 1<<api.FlowIp6
				checkChoose(t, r, x, queues, want)
				r.Kinds = 0
				r.Table = constant(4, (q+1)%8)
				checkChoose(t, r, x, queues, want)
			}
		}
	}
}

// Rules for which Check returns an error: 0, though the table, or Default,
// would give another queue.
func TestChooseWrongRules(t *testing.T) {
	for i, change := range changes() {
		r := valid()
		change(&r)
		for _, x := range samples() {
			for _, queues := range around(-1, 9) {
				if q := rss.Choose(r, x.s, queues); q != 0 {
					t.Errorf("%d: Choose(%s, %s, %d): %d", i, text(r), x.name, queues, q)
				}
			}
		}
	}
}

// Keys that are shorter than the bytes of a flow: the bits behind them are 0.
func TestChooseShortKeys(t *testing.T) {
	r := valid()
	r.Table = filled(128, 7, 5)
	for n := 4; n <= 52; n++ {
		for _, r.Key = range []string{scattered(n, uint32(n)), strings.Repeat("\xff", n), strings.Repeat("\x00", n)} {
			for _, x := range samples() {
				for _, r.Kinds = range []int{126, 1<<api.FlowIp4 | 1<<api.FlowIp6} {
					checkChoose(t, r, x, 8, wantOf(r, x, 8))
				}
			}
		}
	}
}

// With a key of zeros, every hash is 0.
func TestChooseZeroKey(t *testing.T) {
	for n := 1; n <= 128; n *= 2 {
		r := api.Rss{Kinds: 126, Table: constant(n, 2), Key: "\x00\x00\x00\x00", Default: 3}
		r.Table[0] = 6
		for _, x := range samples() {
			want := 6
			if x.kind == api.FlowNone {
				want = 3
			}
			checkChoose(t, r, x, 8, want)
		}
	}
}

// Frames of many connections, in both directions.
func TestChooseMany(t *testing.T) {
	r := valid()
	r.Table = filled(64, 7, 9)
	seen := map[int]bool{}
	for seed := range uint32(300) {
		p, kind, bare := api.Ip{V: 4, Src: scattered(4, seed), Dst: scattered(4, seed+999), Proto: 17, Body: scattered(9, seed)}, api.FlowUdp4, api.FlowIp4
		if seed%2 == 1 {
			p.V, p.Src, p.Dst, kind, bare = 6, scattered(16, seed), scattered(16, seed+999), api.FlowUdp6, api.FlowIp6
		}
		for range 2 {
			addrs := p.Src + p.Dst
			for _, x := range twice(fmt.Sprintf("number %d", seed), p, kind, addrs+p.Body[:4], bare, addrs) {
				want := wantOf(r, x, 8)
				checkChoose(t, r, x, 8, want)
				seen[want] = true
			}
			p.Src, p.Dst = p.Dst, p.Src
		}
	}
	if len(seen) != 8 {
		t.Errorf("%d queues", len(seen))
	}
}

// P11.3

func TestEvenExamples(t *testing.T) {
	for _, x := range []struct {
		size, queues int
		want         []int
	}{
		{4, 3, []int{0, 1, 2, 0}},
		{5, 2, []int{0, 1, 0, 1, 0}},
		{1, 1, []int{0}},
		{1, 8, []int{0}},
		{2, 8, []int{0, 1}},
		{3, 1, []int{0, 0, 0}},
		{10, 8, []int{0, 1, 2, 3, 4, 5, 6, 7, 0, 1}},
		{0, 1, nil},
		{-1, 1, nil},
		{129, 8, nil},
		{128, 9, nil},
		{128, 0, nil},
	} {
		if got := rss.Even(x.size, x.queues); !slices.Equal(got, x.want) {
			t.Errorf("Even(%d, %d): %v, want %v", x.size, x.queues, got, x.want)
		}
	}
}

func TestEven(t *testing.T) {
	for _, size := range around(-9, 300) {
		for _, queues := range around(-9, 20) {
			var want []int
			if size >= 1 && size <= 128 && queues >= 1 && queues <= 8 {
				for q := 0; len(want) < size; q++ {
					if q == queues {
						q = 0
					}
					want = append(want, q)
				}
			}
			if got := rss.Even(size, queues); !slices.Equal(got, want) {
				t.Errorf("Even(%d, %d): %v", size, queues, got)
			}
		}
	}
}

// A table by Even may be in rules where rules may have so many elements.
func TestEvenInRules(t *testing.T) {
	r := valid()
	for size := range 130 {
		for queues := range 10 {
			r.Table = rss.Even(size, queues)
			checkCheck(t, r, size >= 1 && size <= 128 && size&(size-1) == 0 && queues >= 1 && queues <= 8)
		}
	}
}

// P11.4

// families are frames of one flow each, with other tags, hops, classes, bodies
// and addresses of frames; the last ones have no flow.
func families() map[string][]string {
	all := map[string][]string{}
	for _, x := range []struct {
		name string
		p    api.Ip
		keep string // what the body begins with
	}{
		{"tcp4", four(6, ""), ports},
		{"udp4", four(17, ""), ports},
		{"icmp4", four(1, ""), ""},
		{"tcp6", six(6, ""), ports},
		{"udp6", six(17, ""), ports},
		{"icmp6", six(58, ""), ""},
	} {
		for i, vlan := range []int{-1, 0, 1, 7, 0x800, 4094} {
			p := x.p
			p.Hops, p.Class, p.Body = 51*i, 255-i, x.keep+scattered(i*i*40, uint32(i))
			if p.V == 4 {
				p.Id, p.Options = i*9999, scattered(4*i, uint32(i))
			} else {
				p.Label = i * 99999
			}
			s := frameBytes(p, vlan)
			all[x.name] = append(all[x.name], s, scattered(12, uint32(i))+s[12:])
		}
	}
	for _, x := range none() {
		all["none"] = append(all["none"], x.s)
	}
	return all
}

func TestOneFlow(t *testing.T) {
	for name, frames := range families() {
		for seed := range uint32(6) {
			r := api.Rss{Table: filled(128>>seed, 7, seed), Key: scattered(4+8*int(seed), seed), Default: int(seed) + 2}
			for r.Kinds = 0; r.Kinds <= 126; r.Kinds += 2 {
				for queues := 1; queues <= 8; queues++ {
					want := rss.Choose(r, frames[0], queues)
					if want < 0 || want >= queues {
						t.Errorf("%s, %d queues: %d", name, queues, want)
					}
					for i, s := range frames {
						if q := rss.Choose(r, s, queues); q != want {
							t.Errorf("%s, frame %d, %d queues, %s: %d, want %d", name, i, queues, text(r), q, want)
						}
					}
				}
			}
		}
	}
}

// Whole segments of one connection, as they are sent, fragments of one packet,
// and packets of one pair of addresses where only these are hashed.
func TestOneFlowOfSegments(t *testing.T) {
	r := valid()
	for _, p := range []api.Ip{four(6, ""), four(17, ""), six(6, ""), six(17, "")} {
		first := -1
		for n := range 50 {
			s, e := segment.Build(p, api.Seg{Src: 2794, Dst: 1766, Body: scattered(n, uint32(n))})
			if e != api.OK {
				t.Fatal(e)
			}
			q := p
			q.Body = s
			got := rss.Choose(r, frameBytes(q, n-1), 8)
			if n == 0 {
				first = got
			}
			if got != first || got == 0 {
				t.Errorf("proto %d, %d bytes: %d, want %d", p.Proto, n, got, first)
			}
		}
	}
	fragment, want := four(17, ports), r.Table[bareHash4%8]
	for fragment.Off = range 20 {
		fragment.Flags = 1
		checkChoose(t, r, sample{name: "a fragment", s: frameBytes(fragment, -1)}, 8, want)
	}
	r.Kinds = 1 << api.FlowIp4
	for proto := range 256 {
		checkChoose(t, r, sample{name: fmt.Sprint("proto ", proto), s: frameBytes(four(proto, scattered(8, uint32(proto))), -1)}, 8, want)
	}
}

func TestOneQueue(t *testing.T) {
	for _, x := range samples() {
		for seed := range uint32(8) {
			r := api.Rss{Table: filled(1<<seed, 7, seed), Key: scattered(40, seed), Default: int(seed)}
			for r.Kinds = 0; r.Kinds <= 126; r.Kinds += 2 {
				checkChoose(t, r, x, 1, 0)
			}
		}
	}
}

// Every answer is from 0 on and below queues, with rules and bytes of any kind.
func TestAnyBytes(t *testing.T) {
	whole := frameBytes(four(6, ports+"more"), 5)
	for i := range 2000 {
		seed := uint32(i)
		r := api.Rss{Kinds: i % 300, Table: filled(i%130, 8-i%2, seed), Key: scattered(i%60, seed), Default: i % 9}
		s := scattered(i%100, seed)
		if i%3 == 0 {
			s = whole[:i%len(whole)] + s
		}
		for queues := 1; queues <= 8; queues++ {
			if q := rss.Choose(r, s, queues); q < 0 || q >= queues {
				t.Errorf("Choose(%s, %x, %d): %d", text(r), s, queues, q)
			}
		}
	}
}

// R4

// Check and Choose leave the table that was handed in, and what is behind its
// end, as it was.
func TestTableIsLeft(t *testing.T) {
	for _, n := range []int{0, 1, 3, 8, 128} {
		whole := append(filled(n, 7, 1), 99, -99, 5, 6)
		old := slices.Clone(whole)
		for _, x := range samples() {
			r := valid()
			r.Table = whole[:n]
			rss.Check(r)
			for queues := range 10 {
				rss.Choose(r, x.s, queues)
			}
		}
		if !slices.Equal(whole, old) {
			t.Errorf("%d elements: %v, and before %v", n, whole, old)
		}
	}
}

// No table is kept: one that was changed gives its new queues.
func TestTableIsNotKept(t *testing.T) {
	r := valid()
	r.Table = make([]int, 8)
	x := sample{name: "tcp4", s: frameBytes(four(6, ports), -1)}
	for _, q := range []int{0, 7, 3, 0, 5} {
		for i := range r.Table {
			r.Table[i] = q
		}
		checkChoose(t, r, x, 8, q)
		checkCheck(t, r, true)
		r.Table[7] = 8
		checkChoose(t, r, x, 8, 0)
		checkCheck(t, r, false)
	}
}

// What Even returned is the caller's own, with its spare capacity.
func TestEvenIsNew(t *testing.T) {
	for _, size := range []int{1, 2, 3, 4, 8, 127, 128} {
		for queues := 1; queues <= 8; queues++ {
			want := rss.Even(size, queues)
			saved := slices.Clone(want)
			for range 3 {
				got := rss.Even(size, queues)
				got = got[:cap(got)]
				for i := range got {
					got[i] = 77
				}
				if !slices.Equal(want, saved) || !slices.Equal(rss.Even(size, queues), saved) {
					t.Fatalf("Even(%d, %d): %v, %v", size, queues, want, rss.Even(size, queues))
				}
			}
		}
	}
}

// R5: earlier calls, with other rules and frames, make no difference.
func TestChooseAgain(t *testing.T) {
	r, other := valid(), valid()
	other.Key, other.Table, other.Kinds = "abcd", []int{4}, 1<<api.FlowIp4
	all := samples()
	for range 3 {
		for _, x := range all {
			checkChoose(t, r, x, 8, wantOf(r, x, 8))
			checkChoose(t, other, x, 8, wantOf(other, x, 8))
			checkChoose(t, api.Rss{}, x, 8, 0)
			checkChoose(t, r, x, 3, wantOf(r, x, 3))
		}
	}
}
