package control_test

import (
	"fmt"
	"math"
	"reflect"
	"slices"
	"strings"
	"testing"

	"aqueduct/api"
	"aqueduct/control"
	"aqueduct/filter"
	"aqueduct/rss"
)

const (
	own      = "\x02\x61\x71\x00\x00\x05"
	next     = "\x02\x61\x71\x00\x00\x06"
	group    = "\x01\x00\x5e\x00\x00\x01"
	everyone = "\xff\xff\xff\xff\xff\xff"

	key52 = "\xff\x00\x80abcdefghijklmnopqrstuvwxyz\x00\xff0123456789ABCDEFGHIJK"
)

// ends are numbers at the ends of an int, and such as are small ones where
// their sign or their upper bits are lost.
func ends() []int {
	return []int{math.MinInt, math.MinInt + 1, math.MinInt + 5, math.MinInt32, -1 << 32, -1<<32 + 5, -65536, -65531, -256, -251, -5, -2, -1, 1 << 16, 1<<16 + 5, 1<<32 - 1, 1 << 32, 1<<32 + 5, 1<<48 + 5, math.MaxInt - 250, math.MaxInt - 1, math.MaxInt}
}

// natural are numbers of ends that are not negative, and these.
func natural(more ...int) []int {
	return append(slices.DeleteFunc(ends(), func(v int) bool { return v < 0 }), more...)
}

// numbers are some without a pattern, always the same ones.
type numbers struct{ seed uint32 }

func (r *numbers) below(n int) int {
	r.seed = r.seed*1664525 + 1013904223
	return int(r.seed>>8) % n
}

// oneOf is an element of a list.
func oneOf[T any](r *numbers, all ...T) T { return all[r.below(len(all))] }

// mac is the address i of so many to one, all different; groupMac is one of so
// many to many.
func mac(i int) string {
	return string([]byte{0x12, 0x34, byte(i >> 8), byte(i), 0xff, byte(i ^ 0x5a)})
}
func groupMac(i int) string { return "\x33" + mac(i)[1:] }

// macs and groups are n addresses each, in no order.
func macs(n int) []string   { return listed(n, mac) }
func groups(n int) []string { return listed(n, groupMac) }

func listed(n int, of func(int) string) []string {
	l := make([]string, n)
	for i := range l {
		l[i] = of(i ^ 1)
	}
	return l
}

// low has the n bytes of a number, the least significant one first.
func low(v, n int) string {
	b := make([]byte, n)
	for i := range b {
		b[i] = byte(v >> (8 * i))
	}
	return string(b)
}

// The bytes of commands, as the chapter's table says.
func rxBytes(number, v int) string   { return string([]byte{0, byte(number), byte(v)}) }
func macBytes(mac string) string     { return "\x01\x01" + mac }
func vlanBytes(number, v int) string { return string([]byte{2, byte(number)}) + low(v, 2) }
func pairsBytes(v int) string        { return "\x04\x00" + low(v, 2) }

func tableBytes(uni, multi []string) string {
	return countedBytes(len(uni), uni, len(multi), multi)
}

// countedBytes are those of addresses where the command says other numbers.
func countedBytes(n int, uni []string, m int, multi []string) string {
	return "\x01\x00" + low(n, 4) + strings.Join(uni, "") + low(m, 4) + strings.Join(multi, "")
}

func rulesBytes(r api.Rss, pairs int) string {
	return sizedBytes(r, pairs, len(r.Table)-1, len(r.Key))
}

// sizedBytes are those of rules where the command says other lengths.
func sizedBytes(r api.Rss, pairs, last, key int) string {
	var table []string
	for _, q := range r.Table {
		table = append(table, low(q, 2))
	}
	return "\x04\x01" + low(r.Kinds, 4) + low(last, 2) + low(r.Default, 2) + strings.Join(table, "") + low(pairs, 2) + low(key, 1) + r.Key
}

// begun is a configuration with little in it, full one with all in it.
func begun() api.Config { return api.Config{F: api.Filter{Mac: own}, Pairs: 1, Max: 8} }

func full() api.Config {
	return api.Config{
		F:     api.Filter{Mac: own, AllMulti: true, NoUni: true, Uni: macs(3), Multi: groups(4), VlanOn: true, Vlans: []int{0, 5, 300, 4094}},
		Pairs: 3, Max: 8, RssOn: true, Rss: ordinary(),
	}
}

// ordinary are rules that rss.Check accepts, with no queue above 5.
func ordinary() api.Rss {
	return api.Rss{Kinds: 84, Table: []int{5, 0, 3, 3}, Key: "a key of some bytes", Default: 4}
}

// bases are configurations whose filter is valid, with a Max of 8.
func bases() []api.Config {
	open := flagged(full(), 63)
	open.F.Uni, open.F.Multi = macs(16), groups(16)
	off := flagged(full(), 0)
	off.RssOn, off.F.VlanOn = false, false
	odd := begun()
	odd.Pairs, odd.RssOn = -3, true
	odd.Rss = api.Rss{Kinds: -1, Table: []int{9, -9, 1 << 40}, Key: "x", Default: math.MinInt}
	return []api.Config{begun(), full(), open, off, odd}
}

// flagged is c with its filter's flags set as the bits of n say, in the order
// of the numbers of the commands.
func flagged(c api.Config, n int) api.Config {
	for i := range 6 {
		*flag(&c, i) = n>>i%2 == 1
	}
	return c
}

// flag is the one that the command of class 0 with this number sets.
func flag(c *api.Config, number int) *bool {
	return []*bool{&c.F.Promisc, &c.F.AllMulti, &c.F.AllUni, &c.F.NoMulti, &c.F.NoUni, &c.F.NoAll}[number]
}

// with and without are a list of VLAN numbers with one more, and one fewer.
func with(vlans []int, v int) []int {
	l := append(without(vlans, v), v)
	slices.Sort(l)
	return l
}

func without(vlans []int, v int) []int {
	return slices.DeleteFunc(slices.Clone(vlans), func(w int) bool { return w == v })
}

// copied is c with slices of its own.
func copied(c api.Config) api.Config {
	c.F.Uni, c.F.Multi, c.F.Vlans = slices.Clone(c.F.Uni), slices.Clone(c.F.Multi), slices.Clone(c.F.Vlans)
	c.Rss.Table = slices.Clone(c.Rss.Table)
	return c
}

// same tells whether two configurations are equal in each field, an empty slice
// and none alike.
func same(c, d api.Config) bool {
	lists := slices.Equal(c.F.Uni, d.F.Uni) && slices.Equal(c.F.Multi, d.F.Multi) && slices.Equal(c.F.Vlans, d.F.Vlans) && slices.Equal(c.Rss.Table, d.Rss.Table)
	return lists && reflect.DeepEqual(bare(c), bare(d))
}

func bare(c api.Config) api.Config {
	c.F.Uni, c.F.Multi, c.F.Vlans, c.Rss.Table = nil, nil, nil, nil
	return c
}

// text is c as a message shows it.
func text(c api.Config) string { return fmt.Sprintf("%+q", fmt.Sprintf("%+v", c)) }

// shown are the first bytes of a command, as a message shows them.
func shown(s string) string { return fmt.Sprintf("%x (%d bytes)", s[:min(len(s), 40)], len(s)) }

// checkOK is of a command that is valid, after which the configuration is want.
func checkOK(t *testing.T, c api.Config, s string, want api.Config) {
	t.Helper()
	if d, ack := control.Apply(c, s); ack != 0 || !same(d, want) {
		t.Errorf("Apply(%s, %s): %s, %d, want %s", text(c), shown(s), text(d), ack, text(want))
	}
}

// checkErr is of one that is not valid, so that all of c stays as it is.
func checkErr(t *testing.T, c api.Config, s string) {
	t.Helper()
	if d, ack := control.Apply(c, s); ack != 1 || !same(d, c) {
		t.Errorf("Apply(%s, %s): %s, %d, want no change and AckErr", text(c), shown(s), text(d), ack)
	}
}

// checkIf is of one that is valid if ok is true.
func checkIf(t *testing.T, ok bool, c api.Config, s string, want api.Config) {
	t.Helper()
	if ok {
		checkOK(t, c, s, want)
	} else {
		checkErr(t, c, s)
	}
}

// sample is a command that is valid for each of bases, and what it does.
type sample struct {
	s  string
	do func(*api.Config)
}

// samples are each command with its smallest, ordinary and greatest bytes.
func samples() []sample {
	var all []sample
	for i := range 6 {
		all = append(all,
			sample{rxBytes(i, 1), func(c *api.Config) { *flag(c, i) = true }},
			sample{rxBytes(i, 0), func(c *api.Config) { *flag(c, i) = false }})
	}
	for _, l := range [][2][]string{
		{nil, nil}, {macs(1), nil}, {nil, groups(1)}, {macs(2), groups(3)}, {macs(16), groups(16)}, {macs(16), nil}, {nil, groups(16)},
		{{own, own, next}, {group, group}},
		{{"\x00\x00\x00\x00\x00\x00", "\xfe\xff\xff\xff\xff\xff"}, {"\x01\x00\x00\x00\x00\x00", "\xff\xff\xff\xff\xff\xfe"}},
	} {
		all = append(all, sample{tableBytes(l[0], l[1]), func(c *api.Config) { c.F.Uni, c.F.Multi = l[0], l[1] }})
	}
	for _, m := range []string{own, next, "\x00\x00\x00\x00\x00\x00", "\xfe\xff\xff\xff\xff\xff"} {
		all = append(all, sample{macBytes(m), func(c *api.Config) { c.F.Mac = m }})
	}
	for _, v := range []int{0, 1, 5, 7, 256, 300, 4093, 4094} {
		all = append(all,
			sample{vlanBytes(0, v), func(c *api.Config) { c.F.Vlans = with(c.F.Vlans, v) }},
			sample{vlanBytes(1, v), func(c *api.Config) { c.F.Vlans = without(c.F.Vlans, v) }})
	}
	for _, n := range []int{1, 5, 8} {
		all = append(all, sample{pairsBytes(n), func(c *api.Config) { c.Pairs, c.RssOn = n, false }})
	}
	for i, r := range rulesSamples() {
		n := []int{1, 5, 8}[i]
		all = append(all, sample{rulesBytes(r, n), func(c *api.Config) { c.Pairs, c.RssOn, c.Rss = n, true, r }})
	}
	return all
}

// rulesSamples are the smallest rules, ordinary ones and the greatest ones.
func rulesSamples() []api.Rss {
	return []api.Rss{
		{Table: []int{0}, Key: "\x00\x00\x00\x00"},
		ordinary(),
		{Kinds: 126, Table: slices.Repeat([]int{7}, 128), Key: key52, Default: 7},
	}
}

// P17.1

func TestNumbersOfApi(t *testing.T) {
	want := []int{0, 1, 2, 4, 0, 1, 2, 3, 4, 5, 0, 1, 0, 1, 0, 1, 0, 1, 16, 128, 8}
	got := []int{api.ClassRx, api.ClassMac, api.ClassVlan, api.ClassPairs,
		api.RxPromisc, api.RxAllMulti, api.RxAllUni, api.RxNoMulti, api.RxNoUni, api.RxNoAll,
		api.MacTable, api.MacSet, api.VlanAdd, api.VlanDel, api.PairsSet, api.PairsRss,
		api.AckOK, api.AckErr, api.MaxMacs, api.MaxTable, api.MaxPairs}
	if !slices.Equal(got, want) || len(key52) != 52 {
		t.Error(got, len(key52))
	}
}

func TestExamples(t *testing.T) {
	want := begun()
	want.F.Promisc = true
	checkOK(t, begun(), "\x00\x00\x01", want)
	checkErr(t, begun(), "\x00\x00\x02")
	want = begun()
	want.F.Vlans = []int{7}
	checkOK(t, begun(), "\x02\x00\x07\x00", want)
}

// Each command's effect, on all fields.
func TestEachCommand(t *testing.T) {
	for _, c := range bases() {
		for _, x := range samples() {
			want := copied(c)
			x.do(&want)
			checkOK(t, c, x.s, want)
		}
	}
}

// Every part of a command that is not all of it, and what is more than it.
func TestTooShortAndTooLong(t *testing.T) {
	for _, c := range []api.Config{begun(), full()} {
		for _, x := range samples() {
			for n := range x.s {
				checkErr(t, c, x.s[:n])
			}
			for _, more := range []string{"\x00", "\x01", "\xff", "\x00\x00", "\x00\x00\x00\x00", mac(9), groupMac(9), x.s} {
				checkErr(t, c, x.s+more)
			}
			checkErr(t, c, "\x00"+x.s)
		}
	}
}

func TestNoBytesAndFew(t *testing.T) {
	for _, c := range bases() {
		checkErr(t, c, "")
		for v := range 256 {
			checkErr(t, c, string([]byte{byte(v)}))
			for w := range 256 {
				checkErr(t, c, string([]byte{byte(v), byte(w)}))
			}
		}
	}
}

// Every class and number, with further bytes that some commands have, and with
// those that none has.
func TestEveryClassAndNumber(t *testing.T) {
	c := begun()
	r := rulesSamples()[1]
	for _, x := range []struct{ rest, at string }{
		{"\x01", "\x00\x00 \x00\x01 \x00\x02 \x00\x03 \x00\x04 \x00\x05"},
		{"\x02\x00", "\x02\x00 \x02\x01 \x04\x00"},
		{"\x00\x00\x00\x00\x00\x00\x00\x00", "\x01\x00"},
		{next, "\x01\x01"},
		{rulesBytes(r, 2)[2:], "\x04\x01"},
		{"\x00\x00\x00", ""},
	} {
		for class := range 256 {
			for number := range 256 {
				id := string([]byte{byte(class), byte(number)})
				_, ack := control.Apply(c, id+x.rest)
				if has := slices.Contains(strings.Split(x.at, " "), id); has != (ack == 0) {
					t.Fatalf("Apply(%s): %d", shown(id+x.rest), ack)
				} else if !has {
					checkErr(t, c, id+x.rest)
				}
			}
		}
	}
}

func TestRxEveryFlag(t *testing.T) {
	for n := range 64 {
		for _, vlanOn := range []bool{false, true} {
			c := flagged(full(), n)
			c.F.VlanOn = vlanOn
			for i := range 6 {
				checkOK(t, c, rxBytes(i, 1), flagged(c, n|1<<i))
				checkOK(t, c, rxBytes(i, 0), flagged(c, n&^(1<<i)))
			}
		}
	}
}

func TestRxEveryByte(t *testing.T) {
	for _, c := range []api.Config{flagged(full(), 0), flagged(full(), 63)} {
		for number := range 256 {
			for v := range 256 {
				if number >= 6 || v >= 2 {
					checkErr(t, c, rxBytes(number, v))
				}
			}
		}
	}
}

// Every two numbers of addresses around those that are allowed.
func TestMacTableNumbers(t *testing.T) {
	for n := range 20 {
		for m := range 20 {
			c, uni, multi := full(), macs(n), groups(m)
			want := copied(c)
			want.F.Uni, want.F.Multi = uni, multi
			checkIf(t, n <= 16 && m <= 16, c, tableBytes(uni, multi), want)
		}
	}
	c := full()
	for _, n := range []int{17, 255, 256, 257, 5000} {
		checkErr(t, c, tableBytes(macs(n), nil))
		checkErr(t, c, tableBytes(nil, groups(n)))
		checkErr(t, c, tableBytes(macs(n), groups(n)))
	}
}

// Numbers that do not agree with the addresses, in either list.
func TestMacTableOtherNumbers(t *testing.T) {
	c := full()
	for n := range 17 {
		for m := range 17 {
			uni, multi := macs(n), groups(m)
			for _, by := range []int{-1, 1, 2, 16, 1 << 8, 1 << 16, 1 << 24, 1 << 31} {
				checkErr(t, c, countedBytes(n+by, uni, m, multi))
				checkErr(t, c, countedBytes(n, uni, m+by, multi))
			}
			for _, number := range []int{17, 1 << 30, 1<<31 - 1, 1 << 31, (1<<32 + 2) / 6, (1<<32 + 4) / 6, 1<<32 - 1} {
				checkErr(t, c, countedBytes(number, uni, m, multi))
				checkErr(t, c, countedBytes(n, uni, number, multi))
			}
		}
	}
	checkErr(t, c, "\x01\x00"+low(1<<32-1, 4))
	checkErr(t, c, "\x01\x00"+low(0, 4)+low(1<<32-1, 4))
	// One address more than the number, whose bytes are the other number.
	checkErr(t, c, countedBytes(1, []string{mac(0), "\x00\x00\x00\x00\x00\x00"}, 0, nil))
	checkErr(t, c, countedBytes(0, []string{"\x01\x00\x00\x00\x00\x00"}, 0, nil))
}

// The numbers have their least significant byte first.
func TestMacTableOrderOfBytes(t *testing.T) {
	want := begun()
	want.F.Uni, want.F.Multi = []string{next}, []string{group}
	checkOK(t, begun(), "\x01\x00\x01\x00\x00\x00"+next+"\x01\x00\x00\x00"+group, want)
	checkErr(t, begun(), "\x01\x00\x00\x00\x00\x01"+next+"\x00\x00\x00\x01"+group)
}

// An address of each wrong kind, at each place of either list.
func TestMacTableWrongKinds(t *testing.T) {
	for _, c := range []api.Config{begun(), full()} {
		for _, n := range []int{1, 2, 3, 16} {
			for i := range n {
				for _, wrong := range []string{group, everyone, groupMac(3), "\x01\x00\x00\x00\x00\x00"} {
					uni := macs(n)
					uni[i] = wrong
					checkErr(t, c, tableBytes(uni, nil))
					checkErr(t, c, tableBytes(uni, groups(2)))
				}
				for _, wrong := range []string{own, everyone, mac(3), "\x00\x01\x01\x01\x01\x01"} {
					multi := groups(n)
					multi[i] = wrong
					checkErr(t, c, tableBytes(nil, multi))
					checkErr(t, c, tableBytes(macs(2), multi))
				}
			}
		}
		checkErr(t, c, tableBytes(groups(2), macs(2)))
	}
}

func TestMacSetKinds(t *testing.T) {
	for _, c := range []api.Config{begun(), full()} {
		for b := range 256 {
			m := string([]byte{byte(b)}) + everyone[1:]
			want := copied(c)
			want.F.Mac = m
			checkIf(t, b%2 == 0, c, macBytes(m), want)
		}
		for _, m := range []string{"", own[:1], own[:5], own + "\x00", own + own, group, everyone, "02:61:71:00:00:05"} {
			checkErr(t, c, macBytes(m))
		}
	}
}

// Every number of two bytes, with lists in which it is and is not.
func TestEveryVlan(t *testing.T) {
	for _, vlans := range [][]int{nil, {0}, {7}, {4094}, {0, 1, 5, 255, 256, 300, 4093, 4094}} {
		c := full()
		c.F.Vlans = vlans
		want := copied(c)
		for v := range 1 << 16 {
			if v > 4400 && v%256 > 8 && v < 65500 {
				continue
			}
			want.F.Vlans = with(vlans, v)
			checkIf(t, v <= 4094, c, vlanBytes(0, v), want)
			want.F.Vlans = without(vlans, v)
			checkIf(t, v <= 4094, c, vlanBytes(1, v), want)
		}
	}
}

// All numbers in one list.
func TestVlanListFull(t *testing.T) {
	c := begun()
	for v := range 4095 {
		c.F.Vlans = append(c.F.Vlans, v)
	}
	want := copied(c)
	for _, v := range []int{0, 1, 2000, 4094} {
		checkOK(t, c, vlanBytes(0, v), c)
		want.F.Vlans = without(c.F.Vlans, v)
		checkOK(t, c, vlanBytes(1, v), want)
		checkOK(t, want, vlanBytes(0, v), c)
	}
	checkErr(t, c, vlanBytes(0, 4095))
	checkErr(t, c, vlanBytes(1, 4095))
}

// maxes are numbers of pairs that a device may have, and such as leave no
// command valid.
func maxes() []int {
	return append(ends(), -8, 0, 1, 2, 3, 4, 7, 8, 9, 255, 256, 257, 65534, 65535)
}

func TestPairsSetNumbers(t *testing.T) {
	for _, most := range maxes() {
		for _, c := range []api.Config{begun(), full()} {
			c.Max = most
			for _, n := range []int{0, 1, 2, 3, 4, 5, 8, 9, 10, 255, 256, 257, 65534, 65535, most - 1, most, most + 1} {
				if n < 0 || n > 65535 {
					continue
				}
				want := copied(c)
				want.Pairs, want.RssOn = n, false
				checkIf(t, 1 <= n && n <= most, c, pairsBytes(n), want)
			}
		}
	}
}

// checkRules is of the command of these rules and of so many pairs.
func checkRules(t *testing.T, ok bool, c api.Config, r api.Rss, pairs int) {
	t.Helper()
	want := copied(c)
	want.Rss, want.Pairs, want.RssOn = r, pairs, true
	checkIf(t, ok, c, rulesBytes(r, pairs), want)
}

func TestPairsRssPairs(t *testing.T) {
	for _, most := range maxes() {
		for _, c := range []api.Config{begun(), full()} {
			c.Max = most
			r := api.Rss{Kinds: 2, Table: []int{0, 0}, Key: "abcd"}
			for _, n := range []int{0, 1, 2, 3, 4, 5, 8, 9, 10, 255, 256, 257, 65534, 65535, most - 1, most, most + 1} {
				if n >= 0 && n <= 65535 {
					checkRules(t, 1 <= n && n <= most, c, r, n)
				}
			}
		}
	}
}

// Each queue at each place of a table, and as the default: it must be below
// Max, and what rss.Check accepts, but not below the number of pairs.
func TestPairsRssQueues(t *testing.T) {
	for _, most := range []int{1, 2, 3, 4, 7, 8, 9, 300, 65536, math.MaxInt} {
		c := full()
		c.Max = most
		for _, q := range []int{0, 1, 2, 3, 4, 6, 7, 8, 9, 255, 256, 299, 300, 65535, most - 1, most} {
			if q > 65535 {
				continue
			}
			ok := q < most && q < 8
			for _, n := range []int{1, 2, 8, 128} {
				for _, i := range []int{0, n / 2, n - 1} {
					r := api.Rss{Kinds: 126, Table: make([]int, n), Key: key52}
					r.Table[i] = q
					checkRules(t, ok, c, r, 1)
				}
			}
			checkRules(t, ok, c, api.Rss{Table: []int{0, 0}, Key: "abcd", Default: q}, 1)
			checkRules(t, ok, c, api.Rss{Table: []int{q, q}, Key: "abcd", Default: q}, most%60000)
		}
	}
}

func TestPairsRssNoMax(t *testing.T) {
	for _, most := range maxes() {
		if most <= 0 {
			c := full()
			c.Max = most
			for _, r := range rulesSamples() {
				checkErr(t, c, rulesBytes(r, 1))
				checkErr(t, c, rulesBytes(r, 0))
			}
		}
	}
}

func TestPairsRssKinds(t *testing.T) {
	c := full()
	r := ordinary()
	for r.Kinds = range 300 {
		checkRules(t, r.Kinds%2 == 0 && r.Kinds <= 126, c, r, 2)
	}
	for bit := range 32 {
		r.Kinds = 1 << bit
		checkRules(t, 1 <= bit && bit <= 6, c, r, 2)
		r.Kinds = 1<<bit | 126
		checkRules(t, 1 <= bit && bit <= 6, c, r, 2)
	}
	r.Kinds = 1<<32 - 1
	checkRules(t, false, c, r, 2)
}

func TestPairsRssLengthsOfTable(t *testing.T) {
	c := full()
	r := ordinary()
	sizes := []int{255, 256, 257, 1024, 65535, 65536}
	for n := 1; n < 140; n++ {
		sizes = append(sizes, n)
	}
	for _, n := range sizes {
		r.Table = make([]int, n)
		for i := range r.Table {
			r.Table[i] = i * i % 8
		}
		checkRules(t, n <= 128 && n&(n-1) == 0, c, r, 2)
	}
	// Without an element, the length minus one is 65535.
	r.Table = nil
	checkErr(t, c, rulesBytes(r, 2))
	checkErr(t, c, sizedBytes(r, 2, 0, len(r.Key)))
}

func TestPairsRssLengthsOfKey(t *testing.T) {
	c := full()
	r := ordinary()
	for n := range 256 {
		r.Key = strings.Repeat(key52, 5)[:n]
		checkRules(t, 4 <= n && n <= 52, c, r, 2)
	}
	r.Key = strings.Repeat(key52, 6)[:256+20]
	checkErr(t, c, rulesBytes(r, 2))
}

// Lengths that do not agree with the bytes.
func TestPairsRssOtherLengths(t *testing.T) {
	c := full()
	for _, r := range rulesSamples() {
		for n := range 1 << 16 {
			if n != len(r.Table)-1 && (n < 300 || n%256 < 2 || n > 65500) {
				checkErr(t, c, sizedBytes(r, 2, n, len(r.Key)))
			}
		}
		for n := range 256 {
			if n != len(r.Key) {
				checkErr(t, c, sizedBytes(r, 2, len(r.Table)-1, n))
			}
		}
	}
}

// Commands that are wrong in one part or in several: no other part of them has
// its effect.
func TestPairsRssWrongParts(t *testing.T) {
	for _, c := range bases() {
		for _, r := range []api.Rss{
			{}, {Table: []int{0}}, {Key: "abcd"}, {Table: []int{0, 1, 2}, Key: "abcd"},
			{Kinds: 1, Table: []int{0}, Key: "abcd"}, {Kinds: 1, Table: []int{9, 9, 9}, Key: "abc", Default: 9},
			{Table: []int{8}, Key: "abcd"}, {Table: []int{0}, Key: "abcd", Default: 8}, {Table: []int{0}, Key: "abc"},
		} {
			checkErr(t, c, rulesBytes(r, 0))
			checkErr(t, c, rulesBytes(r, 1))
			checkErr(t, c, rulesBytes(r, 9))
		}
		checkErr(t, c, rulesBytes(ordinary(), 0))
		checkErr(t, c, rulesBytes(ordinary(), 9))
	}
}

// Each number among the bytes has its least significant byte first.
func TestPairsRssOrderOfBytes(t *testing.T) {
	c := begun()
	c.Max = 300
	want := copied(c)
	want.Pairs, want.RssOn = 0x0102, true
	want.Rss = api.Rss{Kinds: 2, Table: []int{1, 2}, Key: "abcd", Default: 3}
	checkOK(t, c, "\x04\x01\x02\x00\x00\x00\x01\x00\x03\x00\x01\x00\x02\x00\x02\x01\x04abcd", want)
	want.Rss, want.RssOn = api.Rss{}, false
	checkOK(t, c, "\x04\x00\x02\x01", want)
}

// badFilters are configurations whose filter is not valid, with whether a
// command for addresses, one for the own address, or none makes it valid.
func badFilters() (byTable, bySet, never []api.Config) {
	change := func(list *[]api.Config, f func(*api.Filter)) {
		for _, c := range bases() {
			c = copied(c)
			f(&c.F)
			*list = append(*list, c)
		}
	}
	for _, m := range []string{"", own[:5], own + "\x00", group, everyone} {
		change(&bySet, func(f *api.Filter) { f.Mac = m })
		change(&never, func(f *api.Filter) { f.Mac, f.Vlans = m, []int{5, 5} })
		change(&never, func(f *api.Filter) { f.Mac, f.Uni = m, macs(17) })
		change(&never, func(f *api.Filter) { f.Mac, f.Multi = m, []string{group, own} })
	}
	change(&byTable, func(f *api.Filter) { f.Uni = macs(17) })
	change(&byTable, func(f *api.Filter) { f.Uni = []string{own, group} })
	change(&byTable, func(f *api.Filter) { f.Uni = []string{""} })
	change(&byTable, func(f *api.Filter) { f.Multi = groups(17) })
	change(&byTable, func(f *api.Filter) { f.Multi = []string{own, group} })
	change(&byTable, func(f *api.Filter) { f.Multi = []string{everyone} })
	change(&byTable, func(f *api.Filter) { f.Uni, f.Multi = groups(1), macs(1) })
	for _, vlans := range [][]int{{5, 5}, {6, 5}, {-1}, {0, 4095}, {5, 7, 6}} {
		change(&never, func(f *api.Filter) { f.Vlans = vlans })
		change(&never, func(f *api.Filter) { f.Uni, f.Vlans = macs(17), vlans })
	}
	return byTable, bySet, never
}

// Only a command that makes the filter valid is valid.
func TestFilterThatIsNotValid(t *testing.T) {
	byTable, bySet, never := badFilters()
	for which, list := range [][]api.Config{byTable, bySet, never} {
		for _, c := range list {
			for _, x := range samples() {
				want := copied(c)
				x.do(&want)
				makes := which == 0 && x.s[:2] == "\x01\x00" || which == 1 && x.s[:2] == "\x01\x01"
				checkIf(t, makes, c, x.s, want)
			}
			checkErr(t, c, tableBytes(macs(17), nil))
			checkErr(t, c, macBytes(group))
		}
	}
}

// wanted is what Apply should return, by another reading of the chapter's table:
// a command is valid if some of those that are valid has its bytes.
func wanted(c api.Config, s string) (api.Config, int) {
	d := copied(c)
	if len(s) < 3 || !done(&d, s) || filter.Check(d.F) != api.OK {
		return c, 1
	}
	return d, 0
}

func done(d *api.Config, s string) bool {
	rest := s[2:]
	switch s[:2] {
	case "\x00\x00", "\x00\x01", "\x00\x02", "\x00\x03", "\x00\x04", "\x00\x05":
		*flag(d, int(s[1])) = rest == "\x01"
		return rest == "\x01" || rest == "\x00"
	case "\x01\x00":
		return doneTable(d, s)
	case "\x01\x01":
		d.F.Mac = rest
		return true
	case "\x02\x00", "\x02\x01":
		return doneVlan(d, s)
	case "\x04\x00":
		d.RssOn = false
		for d.Pairs = 1; d.Pairs <= d.Max; d.Pairs++ {
			if s == pairsBytes(d.Pairs) {
				return true
			}
		}
	case "\x04\x01":
		return doneRules(d, s)
	}
	return false
}

func doneTable(d *api.Config, s string) bool {
	// All but 10 bytes are addresses, and a number is behind those of the first list.
	for n := 0; n <= 16 && len(s) >= 10+6*n; n++ {
		at := 10 + 6*n
		d.F.Uni, d.F.Multi = cut(s[6:at-4]), cut(s[at:])
		if s == tableBytes(d.F.Uni, d.F.Multi) {
			return true
		}
	}
	return false
}

// cut are the addresses in s.
func cut(s string) []string {
	var l []string
	for ; len(s) >= 6; s = s[6:] {
		l = append(l, s[:6])
	}
	return l
}

func doneVlan(d *api.Config, s string) bool {
	// A list that is not valid is none that filter.Add and filter.Del take.
	if filter.Check(api.Filter{Mac: own, Vlans: d.F.Vlans}) != api.OK {
		return false
	}
	for v := range 4095 {
		switch s {
		case vlanBytes(0, v):
			d.F.Vlans = with(d.F.Vlans, v)
			return true
		case vlanBytes(1, v):
			d.F.Vlans = without(d.F.Vlans, v)
			return true
		}
	}
	return false
}

func doneRules(d *api.Config, s string) bool {
	word := func(at int) int { return int(s[at]) + 256*int(s[at+1]) }
	for n := 1; n <= 128 && len(s) >= 13+2*n; n *= 2 {
		r := api.Rss{Kinds: word(2) + 65536*word(4), Default: word(8), Key: s[13+2*n:]}
		for i := range n {
			r.Table = append(r.Table, word(10+2*i))
		}
		pairs := word(10 + 2*n)
		if s != rulesBytes(r, pairs) || rss.Check(r) != api.OK || pairs < 1 || pairs > d.Max {
			continue
		}
		d.Rss, d.Pairs, d.RssOn = r, pairs, true
		return r.Default < d.Max && slices.Max(r.Table) < d.Max
	}
	return false
}

// config is any configuration, and often one whose filter is valid.
func (r *numbers) config() api.Config {
	c := flagged(full(), r.below(64))
	c.F.Uni, c.F.Multi = macs(oneOf(r, 0, 0, 1, 2, 16)), groups(oneOf(r, 0, 0, 1, 2, 16))
	c.F.VlanOn, c.RssOn = r.below(2) == 0, r.below(2) == 0
	c.Max, c.Pairs = oneOf(r, 0, 1, 2, 4, 8, 9, 300), r.below(9)
	switch r.below(12) {
	case 0:
		c.F.Mac = group
	case 1:
		c.F.Uni = macs(17)
	case 2:
		c.F.Multi = []string{own}
	case 3:
		c.F.Vlans = []int{4, 4}
	case 4:
		c.Rss = api.Rss{}
	}
	return c
}

// command has the bytes of any command, valid or not.
func (r *numbers) command() string {
	switch r.below(6) {
	case 0:
		return rxBytes(r.below(7), r.below(3))
	case 1:
		return tableBytes(r.addresses(mac), r.addresses(groupMac))
	case 2:
		return macBytes(oneOf(r, own, next, group, everyone, mac(r.below(9)), own[1:]))
	case 3:
		return vlanBytes(r.below(3), oneOf(r, 0, 5, 4094, 4095, 65535, r.below(9), r.below(5000)))
	case 4:
		return pairsBytes(oneOf(r, 0, 1, 2, 4, 8, 9, 65535))
	}
	rules := api.Rss{Kinds: oneOf(r, 0, 2, 84, 126, 1, 128), Key: key52[:oneOf(r, 4, 16, 40, 52, 52, 3)], Default: r.below(9)}
	for range oneOf(r, 1, 2, 4, 8, 128, 3) {
		rules.Table = append(rules.Table, r.below(oneOf(r, 1, 2, 4, 8, 9)))
	}
	return rulesBytes(rules, oneOf(r, 1, 2, 3, 8, 0, 9))
}

func (r *numbers) addresses(of func(int) string) []string {
	l := listed(oneOf(r, 0, 1, 2, 5, 15, 16, 17), of)
	if len(l) > 0 && r.below(6) == 0 {
		l[r.below(len(l))] = oneOf(r, own, group, everyone)
	}
	return l
}

// spoilt is s with a byte changed, taken out, put in or cut off, or as it is.
func (r *numbers) spoilt(s string) string {
	i := r.below(len(s))
	b := string([]byte{byte(oneOf(r, 0, 1, 2, 255, r.below(256)))})
	switch r.below(8) {
	case 0:
		return s[:i] + b + s[i+1:]
	case 1:
		return s[:i] + s[i+1:]
	case 2:
		return s[:i] + b + s[i:]
	case 3:
		return s[:i]
	}
	return s
}

func TestAnyCommands(t *testing.T) {
	r := &numbers{11}
	valid := 0
	for range 40000 {
		c, s := r.config(), r.spoilt(r.command())
		want, ack := wanted(c, s)
		checkIf(t, ack == 0, c, s, want)
		if ack == 0 {
			valid++
		}
	}
	if valid < 5000 || valid > 35000 {
		t.Errorf("%d of 40000 commands are valid", valid)
	}
}

// Any bytes, each of them of few values, so that some are valid.
func TestAnyBytes(t *testing.T) {
	r := &numbers{13}
	valid := 0
	for range 40000 {
		b := make([]byte, r.below(15))
		for i := range b {
			b[i] = byte(oneOf(r, 0, 0, 0, 1, 1, 2, 4, 255))
		}
		c := r.config()
		want, ack := wanted(c, string(b))
		checkIf(t, ack == 0, c, string(b), want)
		valid += 1 - ack
	}
	if valid < 200 {
		t.Errorf("%d of 40000 commands are valid", valid)
	}
}

// R1: much more than a command has.
func TestLongCommands(t *testing.T) {
	much := strings.Repeat("\x02", 3<<20)
	for _, start := range []string{"", "\x00\x00\x01", "\x01\x00", "\x01\x00" + low(1<<19, 4), "\x01\x00" + low(0, 4) + low(1<<19, 4), "\x01\x01", "\x02\x00", "\x04\x00", "\x04\x01", "\x04\x01" + low(0, 4) + "\xff\xff"} {
		checkErr(t, full(), start+much)
	}
	checkErr(t, full(), tableBytes(macs(1<<18), groups(1<<18)))
}

// P17.2

func checkBytes(t *testing.T, name, got, want string) {
	t.Helper()
	if got != want {
		t.Errorf("%s: %s, want %s", name, shown(got), shown(want))
	}
}

func TestRxBytes(t *testing.T) {
	cmds := ends()
	for cmd := -600; cmd < 600; cmd++ {
		cmds = append(cmds, cmd)
	}
	for _, cmd := range cmds {
		b := string([]byte{byte((cmd%256 + 256) % 256)})
		checkBytes(t, fmt.Sprintf("Rx(%d, true)", cmd), control.Rx(cmd, true), "\x00"+b+"\x01")
		checkBytes(t, fmt.Sprintf("Rx(%d, false)", cmd), control.Rx(cmd, false), "\x00"+b+"\x00")
	}
	checkBytes(t, "Rx(5, true)", control.Rx(api.RxNoAll, true), "\x00\x05\x01")
}

func TestTableBytes(t *testing.T) {
	checkBytes(t, "Table(nil, nil)", control.Table(nil, nil), "\x01\x00\x00\x00\x00\x00\x00\x00\x00\x00")
	checkBytes(t, "Table({}, {})", control.Table([]string{}, []string{}), "\x01\x00\x00\x00\x00\x00\x00\x00\x00\x00")
	checkBytes(t, "one each", control.Table([]string{own}, []string{group}), "\x01\x00\x01\x00\x00\x00"+own+"\x01\x00\x00\x00"+group)
	checkBytes(t, "one", control.Table([]string{own}, nil), "\x01\x00\x01\x00\x00\x00"+own+"\x00\x00\x00\x00")
	checkBytes(t, "many", control.Table(nil, []string{group}), "\x01\x00\x00\x00\x00\x00\x01\x00\x00\x00"+group)
	for _, n := range []int{0, 1, 2, 16, 17, 255, 256, 300, 70000} {
		checkBytes(t, fmt.Sprint(n, " and 2"), control.Table(macs(n), groups(2)), tableBytes(macs(n), groups(2)))
		checkBytes(t, fmt.Sprint("2 and ", n), control.Table(macs(2), groups(n)), tableBytes(macs(2), groups(n)))
	}
}

// Addresses of any kind and length: their bytes as they are, with their number.
func TestTableBytesOfAnyAddresses(t *testing.T) {
	for _, l := range [][]string{{""}, {"", "", ""}, {"x"}, {own + own}, {own[:5], "\x00\x00\x00\x00\x00\x00\x00"}, {everyone, own, group, "é"}} {
		joined := strings.Join(l, "")
		checkBytes(t, fmt.Sprintf("%q and none", l), control.Table(l, nil), "\x01\x00"+low(len(l), 4)+joined+"\x00\x00\x00\x00")
		checkBytes(t, fmt.Sprintf("none and %q", l), control.Table(nil, l), "\x01\x00\x00\x00\x00\x00"+low(len(l), 4)+joined)
		checkBytes(t, fmt.Sprintf("twice %q", l), control.Table(l, l), "\x01\x00"+low(len(l), 4)+joined+low(len(l), 4)+joined)
	}
}

func TestMacBytes(t *testing.T) {
	for _, m := range []string{own, next, group, everyone, "", "x", own[:5], own + "\x00", own + own, "\x00\xff\x80", strings.Repeat("é", 1000)} {
		checkBytes(t, fmt.Sprintf("Mac(%x)", m), control.Mac(m), "\x01\x01"+m)
	}
}

func TestVlanAndPairsBytes(t *testing.T) {
	all := natural(131071, 131072, 1<<20+3)
	for v := range 70000 {
		all = append(all, v)
	}
	for _, v := range all {
		b := string([]byte{byte(v % 256), byte(v / 256 % 256)})
		checkBytes(t, fmt.Sprintf("Vlan(%d, true)", v), control.Vlan(v, true), "\x02\x00"+b)
		checkBytes(t, fmt.Sprintf("Vlan(%d, false)", v), control.Vlan(v, false), "\x02\x01"+b)
		checkBytes(t, fmt.Sprintf("Pairs(%d)", v), control.Pairs(v), "\x04\x00"+b)
	}
	checkBytes(t, "Vlan(4660, true)", control.Vlan(0x1234, true), "\x02\x00\x34\x12")
	checkBytes(t, "Pairs(4660)", control.Pairs(0x1234), "\x04\x00\x34\x12")
}

func TestRulesBytes(t *testing.T) {
	r := api.Rss{Kinds: 2, Table: []int{0, 1}, Key: "abcd", Default: 3}
	checkBytes(t, "a short one", control.Rules(r, 4), "\x04\x01\x02\x00\x00\x00\x01\x00\x03\x00\x00\x00\x01\x00\x04\x00\x04abcd")
	r = api.Rss{Kinds: 0x12345678, Table: []int{0x2211}, Key: "k", Default: 0x4433}
	checkBytes(t, "one element", control.Rules(r, 0x6655), "\x04\x01\x78\x56\x34\x12\x00\x00\x33\x44\x11\x22\x55\x66\x01k")
	checkBytes(t, "no rules", control.Rules(api.Rss{}, 0), "\x04\x01\x00\x00\x00\x00\xff\xff\x00\x00\x00\x00\x00")
	checkBytes(t, "no element", control.Rules(api.Rss{Table: []int{}, Key: "abcd"}, 1), "\x04\x01\x00\x00\x00\x00\xff\xff\x00\x00\x01\x00\x04abcd")
	for i, r := range rulesSamples() {
		checkBytes(t, fmt.Sprint("sample ", i), control.Rules(r, i+1), rulesBytes(r, i+1))
	}
}

// Each number of the rules, modulo what its bytes hold.
func TestRulesBytesOfAnyNumbers(t *testing.T) {
	for _, v := range natural(0, 1, 7, 8, 126, 127, 255, 256, 65535, 65537, 1<<31, 1<<32-2, 1<<32+1) {
		two, four := low(v%65536, 2), low(v%(1<<32), 4)
		r := api.Rss{Table: []int{0, 0}, Key: "key"}
		r.Kinds = v
		checkBytes(t, fmt.Sprint("Kinds ", v), control.Rules(r, 1), "\x04\x01"+four+"\x01\x00\x00\x00\x00\x00\x00\x00\x01\x00\x03key")
		r.Kinds, r.Default = 0, v
		checkBytes(t, fmt.Sprint("Default ", v), control.Rules(r, 1), "\x04\x01\x00\x00\x00\x00\x01\x00"+two+"\x00\x00\x00\x00\x01\x00\x03key")
		r.Default, r.Table = 0, []int{5, v}
		checkBytes(t, fmt.Sprint("queue ", v), control.Rules(r, 1), "\x04\x01\x00\x00\x00\x00\x01\x00\x00\x00\x05\x00"+two+"\x01\x00\x03key")
		r.Table = []int{v, 5}
		checkBytes(t, fmt.Sprint("first queue ", v), control.Rules(r, v), "\x04\x01\x00\x00\x00\x00\x01\x00\x00\x00"+two+"\x05\x00"+two+"\x03key")
	}
}

func TestRulesBytesOfAnyLengths(t *testing.T) {
	for _, n := range []int{1, 2, 3, 127, 128, 129, 255, 256, 257, 65535, 65536, 65537, 70000} {
		want := "\x04\x01\x00\x00\x00\x00" + low((n-1)%65536, 2) + "\x00\x00" + strings.Repeat("\x09\x00", n) + "\x02\x00\x04abcd"
		checkBytes(t, fmt.Sprint(n, " elements"), control.Rules(api.Rss{Table: slices.Repeat([]int{9}, n), Key: "abcd"}, 2), want)
	}
	for _, n := range []int{0, 1, 3, 4, 40, 52, 53, 254, 255, 256, 257, 511, 512, 70000} {
		key := strings.Repeat("k", n)
		want := "\x04\x01\x00\x00\x00\x00\x00\x00\x00\x00\x06\x00\x02\x00" + low(n%256, 1) + key
		checkBytes(t, fmt.Sprint("a key of ", n), control.Rules(api.Rss{Table: []int{6}, Key: key}, 2), want)
	}
}

// R1: negative numbers, for which no bytes are stated, still make a command's
// own number of bytes.
func TestBytesOfNegativeNumbers(t *testing.T) {
	for _, v := range ends() {
		r := api.Rss{Kinds: v, Table: []int{v, v}, Key: "abcd", Default: v}
		for _, x := range []struct{ got, like string }{
			{control.Vlan(v, true), "\x02\x00\x00\x00"},
			{control.Vlan(v, false), "\x02\x01\x00\x00"},
			{control.Pairs(v), "\x04\x00\x00\x00"},
			{control.Rules(r, v), "\x04\x01\x00\x00\x00\x00\x01\x00\x00\x00\x00\x00\x00\x00\x00\x00\x04abcd"},
		} {
			if len(x.got) != len(x.like) || x.got[:2] != x.like[:2] {
				t.Errorf("%d: %s", v, shown(x.got))
			}
		}
	}
}

// What the functions return is what Apply takes.
func TestApplyOfBuilt(t *testing.T) {
	for _, c := range bases() {
		for i := range 6 {
			checkOK(t, c, control.Rx(i, true), flagged(c, flagsOf(c)|1<<i))
			checkOK(t, c, control.Rx(i, false), flagged(c, flagsOf(c)&^(1<<i)))
		}
		want := copied(c)
		want.F.Uni, want.F.Multi = macs(7), groups(9)
		checkOK(t, c, control.Table(macs(7), groups(9)), want)
		want = copied(c)
		want.F.Mac = next
		checkOK(t, c, control.Mac(next), want)
		want = copied(c)
		want.F.Vlans = with(c.F.Vlans, 9)
		checkOK(t, c, control.Vlan(9, true), want)
		want.F.Vlans = without(c.F.Vlans, 5)
		checkOK(t, c, control.Vlan(5, false), want)
		want = copied(c)
		want.Pairs, want.RssOn = 7, false
		checkOK(t, c, control.Pairs(7), want)
		want.Pairs, want.RssOn, want.Rss = 6, true, ordinary()
		checkOK(t, c, control.Rules(ordinary(), 6), want)
		// What is more than a number's bytes hold is lost, and what is left is valid.
		checkOK(t, c, control.Rules(ordinary(), 1<<16+6), want)
		checkErr(t, c, control.Rules(api.Rss{Key: "abcd"}, 1))
		checkErr(t, c, control.Rx(6, true))
		checkErr(t, c, control.Mac(group))
	}
}

func flagsOf(c api.Config) int {
	n := 0
	for i := range 6 {
		if *flag(&c, i) {
			n |= 1 << i
		}
	}
	return n
}

// R4

// roomy is c, each of whose slices lies amid a longer one; whole has these.
func roomy(c api.Config) (d, whole api.Config) {
	whole.F.Uni = slices.Concat(macs(2), c.F.Uni, groups(3))
	whole.F.Multi = slices.Concat(groups(2), c.F.Multi, macs(3))
	whole.F.Vlans = slices.Concat([]int{-7, -8}, c.F.Vlans, []int{-9, 7000, 3})
	whole.Rss.Table = slices.Concat([]int{-7, -8}, c.Rss.Table, []int{-9, 7000, 3})
	d = c
	d.F.Uni = whole.F.Uni[2 : 2+len(c.F.Uni)]
	d.F.Multi = whole.F.Multi[2 : 2+len(c.F.Multi)]
	d.F.Vlans = whole.F.Vlans[2 : 2+len(c.F.Vlans)]
	d.Rss.Table = whole.Rss.Table[2 : 2+len(c.Rss.Table)]
	return d, whole
}

// overwrite changes all elements of c's slices, with their spare capacity.
func overwrite(c api.Config) {
	fill(c.F.Uni, "u")
	fill(c.F.Multi, "m")
	fill(c.F.Vlans, -77)
	fill(c.Rss.Table, -78)
}

func fill[T any](l []T, v T) {
	l = l[:cap(l)]
	for i := range l {
		l[i] = v
	}
}

// tried are commands of all kinds, valid and not.
func tried() []string {
	all := []string{"", "\x00\x00\x02", "\x03\x00\x00", macBytes(group), vlanBytes(0, 4095), vlanBytes(1, 65535), pairsBytes(0), pairsBytes(9), rulesBytes(ordinary(), 9), tableBytes(macs(17), nil), tableBytes(macs(2), macs(2))}
	for _, x := range samples() {
		all = append(all, x.s, x.s+"\x00", x.s[:len(x.s)-1])
	}
	return all
}

// kept are configurations with slices of several lengths, some of which have a
// filter that is not valid.
func kept() []api.Config {
	byTable, bySet, never := badFilters()
	return slices.Concat(bases(), byTable[:7], bySet[:7], never[:7])
}

// Apply leaves what was handed in as it was, with what is around it.
func TestHandedInIsLeft(t *testing.T) {
	for _, base := range kept() {
		c, whole := roomy(base)
		saved := copied(whole)
		for _, s := range tried() {
			control.Apply(c, s)
			if !same(whole, saved) || !same(c, base) {
				t.Fatalf("%s with %s: %s around it, and before %s", text(base), shown(s), text(whole), text(saved))
			}
		}
	}
}

// What was returned is the caller's own, with its spare capacity: changing it
// changes nothing that was handed in, and no other result; and changing what
// was handed in changes no result.
func TestResultIsNew(t *testing.T) {
	for _, base := range kept() {
		for _, s := range tried() {
			c, whole := roomy(base)
			saved := copied(whole)
			other, _ := control.Apply(c, s)
			want := copied(other)
			got, _ := control.Apply(c, s)
			overwrite(got)
			if !same(whole, saved) || !same(other, want) {
				t.Fatalf("%s with %s: %s, %s", text(base), shown(s), text(whole), text(other))
			}
			overwrite(whole)
			if !same(other, want) {
				t.Fatalf("%s with %s: %s, and before %s", text(base), shown(s), text(other), text(want))
			}
		}
	}
}

// The slices of one result share nothing, also where those that were handed in
// do, and where one goes on behind another's end.
func TestResultSharesNothing(t *testing.T) {
	addresses, all := slices.Concat(macs(4), groups(4)), []int{1, 2, 4, 5}
	begin := begun()
	begin.F.Uni, begin.F.Multi, begin.F.Vlans, begin.Rss.Table = addresses[:4], addresses[4:], all, all
	joined := copied(begin)
	joined.F.Uni, joined.F.Multi = addresses, addresses
	joined.F.Vlans, joined.Rss.Table = all[:2], all[2:]
	for _, c := range []api.Config{begin, joined, full()} {
		for _, s := range tried() {
			want, _ := control.Apply(c, s)
			for i, one := range []func(api.Config){
				func(d api.Config) { fill(d.F.Uni, "u") },
				func(d api.Config) { fill(d.F.Multi, "m") },
				func(d api.Config) { fill(d.F.Vlans, -77) },
				func(d api.Config) { fill(d.Rss.Table, -78) },
			} {
				d, _ := control.Apply(c, s)
				one(d)
				changed := []bool{!slices.Equal(d.F.Uni, want.F.Uni), !slices.Equal(d.F.Multi, want.F.Multi), !slices.Equal(d.F.Vlans, want.F.Vlans), !slices.Equal(d.Rss.Table, want.Rss.Table)}
				changed[i] = false
				if slices.Contains(changed, true) {
					t.Fatalf("%s with %s: slices %v change with slice %d", text(c), shown(s), changed, i)
				}
			}
		}
	}
}

// Configurations that came of one another are independent.
func TestChainOfConfigs(t *testing.T) {
	var all, saved []api.Config
	c := full()
	for _, s := range tried() {
		c, _ = control.Apply(c, s)
		all, saved = append(all, c), append(saved, copied(c))
	}
	for i := range all {
		overwrite(all[i])
		for k := i + 1; k < len(all); k++ {
			if !same(all[k], saved[k]) {
				t.Fatalf("%d changes with %d", k, i)
			}
		}
	}
}

// Table and Rules leave what was handed in as it was, with what is around it.
func TestListsAreLeft(t *testing.T) {
	for _, base := range kept() {
		c, whole := roomy(base)
		saved := copied(whole)
		control.Table(c.F.Uni, c.F.Multi)
		control.Rules(c.Rss, 3)
		if !same(whole, saved) {
			t.Fatalf("%s: %s around it", text(base), text(whole))
		}
	}
}

// P17.3

// A valid command has its effect once: the second time it changes nothing.
func TestTwiceAsOnce(t *testing.T) {
	r := &numbers{17}
	valid := 0
	for range 20000 {
		c, s := r.config(), r.spoilt(r.command())
		once, ack := control.Apply(c, s)
		if ack == 0 {
			valid++
			checkOK(t, once, s, once)
		}
	}
	for _, c := range bases() {
		for _, x := range samples() {
			once, _ := control.Apply(c, x.s)
			checkOK(t, once, x.s, once)
		}
	}
	if valid < 2000 {
		t.Errorf("only %d commands are valid", valid)
	}
}

// The filter is valid behind each valid command, whatever it was before.
func TestFilterIsValidThen(t *testing.T) {
	r := &numbers{19}
	for range 20000 {
		c, s := r.config(), r.spoilt(r.command())
		if d, ack := control.Apply(c, s); ack == 0 && filter.Check(d.F) != api.OK {
			t.Fatalf("Apply(%s, %s): %s", text(c), shown(s), text(d))
		}
	}
	for _, c := range kept() {
		for _, s := range tried() {
			if d, ack := control.Apply(c, s); ack == 0 && filter.Check(d.F) != api.OK {
				t.Fatalf("Apply(%s, %s): %s", text(c), shown(s), text(d))
			}
		}
	}
}

// A configuration through many commands, each held against the model's.
func TestManyCommandsInTurn(t *testing.T) {
	r := &numbers{23}
	c := full()
	want := copied(c)
	for i := range 5000 {
		s := r.spoilt(r.command())
		var ack, wantAck int
		c, ack = control.Apply(c, s)
		want, wantAck = wanted(want, s)
		if ack != wantAck || !same(c, want) {
			t.Fatalf("%d commands, the last one %s: %s, %d, want %s, %d", i+1, shown(s), text(c), ack, text(want), wantAck)
		}
	}
}

// R5: earlier calls, with other configurations and commands, make no difference.
func TestAgain(t *testing.T) {
	for range 3 {
		checkOK(t, begun(), "\x00\x00\x01", flagged(begun(), 1))
		checkErr(t, begun(), "\x00\x00\x02")
		checkErr(t, api.Config{}, "\x00\x00\x01")
		checkOK(t, flagged(full(), 1), "\x00\x00\x00", flagged(full(), 0))
		checkErr(t, full(), rulesBytes(ordinary(), 9))
		checkRules(t, true, full(), ordinary(), 8)
		checkBytes(t, "Rx", control.Rx(1, true), "\x00\x01\x01")
		checkBytes(t, "Mac", control.Mac("x"), "\x01\x01x")
	}
}
