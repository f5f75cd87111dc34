package filter_test

import (
	"fmt"
	"math"
	"reflect"
	"slices"
	"strings"
	"testing"

	"aqueduct/addr"
	"aqueduct/api"
	"aqueduct/eth"
	"aqueduct/filter"
)

const (
	own      = "\x02\x61\x71\x00\x00\x05"
	next     = "\x02\x61\x71\x00\x00\x06"
	group    = "\x01\x00\x5e\x00\x00\x01"
	everyone = "\xff\xff\xff\xff\xff\xff"
	sender   = "\x02\x61\x71\x00\x00\x09"
)

// The bits of flagged's numbers.
const (
	promisc = 1 << iota
	allUni
	allMulti
	noUni
	noMulti
	noAll
	vlanOn
	allFlags // all numbers are below it
)

// ends are numbers at the ends of an int, and such as are small ones where
// their sign or their upper bits are lost.
func ends() []int {
	return []int{math.MinInt, math.MinInt + 1, math.MinInt + 5, math.MinInt32, -1 << 32, -1<<32 + 5, -65536, -65531, -4095, -4094, -4091, -5, -2, 1 << 16, 1<<16 + 5, 1 << 32, 1<<32 + 5, 1<<62 + 5, math.MaxInt - 4094, math.MaxInt - 1, math.MaxInt}
}

// wrongVlans are numbers that are those of no VLAN.
func wrongVlans() []int { return append(ends(), -1, 4095, 4096, 4097, 8191) }

// numbers are some without a pattern, always the same ones.
type numbers struct{ seed uint32 }

func (r *numbers) below(n int) int {
	r.seed = r.seed*1664525 + 1013904223
	return int(r.seed>>8) % n
}

// mac is the address i of so many to one, all different; groupMac is one of so
// many to many.
func mac(i int) string {
	return string([]byte{0x12, 0x34, byte(i >> 8), byte(i), 0xff, byte(i ^ 0x5a)})
}
func groupMac(i int) string { return "\x33" + mac(i)[1:] }

// macs and groups are n addresses each, in no order.
func macs(n int) []string   { return listed(n, mac) }
func groups(n int) []string { return listed(n, groupMac) }

func listed(n int, of func(int) string) []string {
	l := make([]string, n)
	for i := range l {
		l[i] = of(i ^ 1)
	}
	return l
}

// upTo are the numbers from low to high.
func upTo(low, high int) []int {
	var l []int
	for v := low; v <= high; v++ {
		l = append(l, v)
	}
	return l
}

// framed has the bytes of a frame, without a tag if vlan is -1.
func framed(dst, src string, vlan, pri, frameType int, body string) string {
	s := dst + src
	if vlan >= 0 {
		s += string([]byte{0x81, 0, byte(pri<<5 | vlan>>8), byte(vlan)})
	}
	return s + string([]byte{byte(frameType >> 8), byte(frameType)}) + body
}

// frameTo is a frame to this address with a tag, or without one if vlan is -1.
func frameTo(dst string, vlan int) string { return framed(dst, sender, vlan, 0, 0x0800, "hi") }

// plain is one without a tag.
func plain(dst string) string { return frameTo(dst, -1) }

// valid is a filter that Check accepts.
func valid() api.Filter {
	return api.Filter{Mac: own, Uni: macs(5), Multi: groups(5), Vlans: []int{0, 5, 6, 300, 4094}}
}

// flagged is f with its flags set as the bits of n say.
func flagged(f api.Filter, n int) api.Filter {
	for i, flag := range []*bool{&f.Promisc, &f.AllUni, &f.AllMulti, &f.NoUni, &f.NoMulti, &f.NoAll, &f.VlanOn} {
		*flag = n>>i%2 == 1
	}
	return f
}

// text is f as a message shows it.
func text(f api.Filter) string {
	vlans := fmt.Sprint(f.Vlans)
	if len(f.Vlans) > 20 {
		vlans = fmt.Sprintf("%v.. %d in all", f.Vlans[:20], len(f.Vlans))
	}
	return fmt.Sprintf("{Mac %x, Promisc %v, AllUni %v, AllMulti %v, NoUni %v, NoMulti %v, NoAll %v, Uni %x, Multi %x, VlanOn %v, Vlans %s}",
		f.Mac, f.Promisc, f.AllUni, f.AllMulti, f.NoUni, f.NoMulti, f.NoAll, f.Uni, f.Multi, f.VlanOn, vlans)
}

// copied is f with slices of its own.
func copied(f api.Filter) api.Filter {
	f.Uni, f.Multi, f.Vlans = slices.Clone(f.Uni), slices.Clone(f.Multi), slices.Clone(f.Vlans)
	return f
}

// same tells whether two filters are equal, an empty slice and none alike.
func same(f, g api.Filter) bool {
	lists := slices.Equal(f.Uni, g.Uni) && slices.Equal(f.Multi, g.Multi) && slices.Equal(f.Vlans, g.Vlans)
	f.Uni, f.Multi, f.Vlans = nil, nil, nil
	g.Uni, g.Multi, g.Vlans = nil, nil, nil
	return lists && reflect.DeepEqual(f, g)
}

func checkCheck(t *testing.T, f api.Filter, ok bool) {
	t.Helper()
	want := api.ErrFilterForm
	if ok {
		want = api.OK
	}
	if e := filter.Check(f); e != want {
		t.Errorf("Check(%s): %d, want %d", text(f), e, want)
	}
}

func checkAdmits(t *testing.T, f api.Filter, s string, want bool) {
	t.Helper()
	if ok := filter.Admits(f, s); ok != want {
		t.Errorf("Admits(%s, %x of %d bytes): %v", text(f), s[:min(len(s), 24)], len(s), ok)
	}
}

// checkAdd and checkDel hold the whole result against f with these Vlans.
func checkAdd(t *testing.T, f api.Filter, vlan int, vlans []int) {
	t.Helper()
	want := f
	want.Vlans = vlans
	if g, e := filter.Add(f, vlan); !same(g, want) || e != api.OK {
		t.Errorf("Add(%s, %d): %s, %d", text(f), vlan, text(g), e)
	}
}

func checkDel(t *testing.T, f api.Filter, vlan int, vlans []int) {
	t.Helper()
	want := f
	want.Vlans = vlans
	if g, e := filter.Del(f, vlan); !same(g, want) || e != api.OK {
		t.Errorf("Del(%s, %d): %s, %d", text(f), vlan, text(g), e)
	}
}

// checkNeither is of filters and numbers that both of them refuse.
func checkNeither(t *testing.T, f api.Filter, vlan int) {
	t.Helper()
	if g, e := filter.Add(f, vlan); !same(g, api.Filter{}) || e != api.ErrArg {
		t.Errorf("Add(%s, %d): %s, %d, want nothing and ErrArg", text(f), vlan, text(g), e)
	}
	if g, e := filter.Del(f, vlan); !same(g, api.Filter{}) || e != api.ErrArg {
		t.Errorf("Del(%s, %d): %s, %d, want nothing and ErrArg", text(f), vlan, text(g), e)
	}
}

// P16.1

func TestCheckNumbers(t *testing.T) {
	if api.ErrArg != 1 || api.ErrFilterForm != 160 || api.MaxMacs != 16 {
		t.Error(api.ErrArg, api.ErrFilterForm, api.MaxMacs)
	}
}

func TestCheckOrdinary(t *testing.T) {
	checkCheck(t, api.Filter{Mac: own}, true)
	checkCheck(t, api.Filter{Mac: addr.Port(15), Uni: []string{next}, Multi: []string{group}, Vlans: []int{7}}, true)
	checkCheck(t, api.Filter{Mac: own, Uni: []string{}, Multi: []string{}, Vlans: []int{}}, true)
	checkCheck(t, api.Filter{Mac: own, Uni: macs(16), Multi: groups(16), Vlans: upTo(0, 4094)}, true)
	checkCheck(t, valid(), true)
	checkCheck(t, api.Filter{}, false)
	checkCheck(t, api.Filter{Uni: macs(2), Multi: groups(2), Vlans: []int{1, 2}}, false)
}

// notOne are byte strings that are not the address of one device, and notMany
// such as are not that of many.
func notOne() []string {
	return append(noMacs(), group, everyone, "\x01\x00\x00\x00\x00\x00", groupMac(1))
}

func notMany() []string { return append(noMacs(), own, everyone, "\x00\x01\x01\x01\x01\x01", mac(1)) }

// noMacs are byte strings that don't have six bytes.
func noMacs() []string {
	all := []string{"", "02:61:71:00:00:05", strings.Repeat("\x00", 12), strings.Repeat("a", 1<<16), strings.Repeat("é", 6), own + own, group + group}
	for _, s := range []string{own, group, everyone} {
		all = append(all, s[:1], s[:4], s[:5], s[1:], s+"\x00", s+s[:1])
	}
	return all
}

func TestCheckMac(t *testing.T) {
	f := valid()
	for _, f.Mac = range []string{own, next, "\x00\x00\x00\x00\x00\x00", "\x00\x01\x01\x01\x01\x01", "\xfe\xff\xff\xff\xff\xff", "äöü"[1:] + "a", "\u20ac\u20ac"} {
		checkCheck(t, f, f.Mac[0]%2 == 0)
	}
	for _, f.Mac = range notOne() {
		checkCheck(t, f, false)
	}
}

func TestCheckMacFirstByte(t *testing.T) {
	for c := range 256 {
		f := valid()
		f.Mac = string([]byte{byte(c)}) + everyone[1:]
		checkCheck(t, f, c%2 == 0)
		f = valid()
		f.Uni[2] = string([]byte{byte(c)}) + everyone[1:]
		checkCheck(t, f, c%2 == 0)
		f = valid()
		f.Multi[2] = string([]byte{byte(c)}) + everyone[1:]
		checkCheck(t, f, c%2 == 1 && c != 255)
	}
}

func TestCheckMacSizes(t *testing.T) {
	for n := range 20 {
		for _, c := range []string{"\x00", "\x02", "\xfe"} {
			checkCheck(t, api.Filter{Mac: strings.Repeat(c, n)}, n == 6)
			checkCheck(t, api.Filter{Mac: own, Uni: []string{strings.Repeat(c, n)}}, n == 6)
		}
		checkCheck(t, api.Filter{Mac: own, Multi: []string{strings.Repeat("\x01", n)}}, n == 6)
	}
}

func TestCheckListSizes(t *testing.T) {
	for _, n := range append(upTo(0, 40), 255, 256, 257, 272, 1024, 65536) {
		f := valid()
		f.Uni = macs(n)
		checkCheck(t, f, n <= 16)
		f.Uni = slices.Repeat([]string{next}, n)
		checkCheck(t, f, n <= 16)
		f = valid()
		f.Multi = groups(n)
		checkCheck(t, f, n <= 16)
		f.Multi = slices.Repeat([]string{group}, n)
		checkCheck(t, f, n <= 16)
	}
}

// Each list has its own 16.
func TestCheckBothLists(t *testing.T) {
	for n := range 19 {
		for k := range 19 {
			checkCheck(t, api.Filter{Mac: own, Uni: macs(n), Multi: groups(k)}, n <= 16 && k <= 16)
		}
	}
}

// One address that may not be, at each place of lists of each size.
func TestCheckListKinds(t *testing.T) {
	for n := 1; n <= 16; n++ {
		for i := range n {
			for _, wrong := range notOne() {
				f := valid()
				f.Uni = macs(n)
				f.Uni[i] = wrong
				checkCheck(t, f, false)
			}
			for _, wrong := range notMany() {
				f := valid()
				f.Multi = groups(n)
				f.Multi[i] = wrong
				checkCheck(t, f, false)
			}
		}
	}
}

// Addresses may be there more than once, and Mac may be one of Uni.
func TestCheckListsRepeat(t *testing.T) {
	f := valid()
	f.Uni = []string{own, next, own, own, next}
	f.Multi = []string{group, groupMac(1), group}
	checkCheck(t, f, true)
}

// Lists that are changed for each other are refused, unless they are empty.
func TestCheckListsChanged(t *testing.T) {
	for n := range 17 {
		checkCheck(t, api.Filter{Mac: own, Uni: groups(n)}, n == 0)
		checkCheck(t, api.Filter{Mac: own, Multi: macs(n)}, n == 0)
		checkCheck(t, api.Filter{Mac: own, Uni: groups(n), Multi: macs(n)}, n == 0)
	}
}

func TestCheckVlans(t *testing.T) {
	f := valid()
	for _, f.Vlans = range [][]int{nil, {}, {0}, {1}, {4093}, {4094}, {0, 1}, {0, 4094}, {4093, 4094}, {1, 3, 5, 4000}, upTo(0, 4094), upTo(1, 4094), upTo(0, 4093), {255, 256, 257}} {
		checkCheck(t, f, true)
	}
	for _, f.Vlans = range badVlans() {
		checkCheck(t, f, false)
	}
}

// badVlans are lists that P16.1 does not allow: with a number that is none, at
// either end or between, with two equal ones and with two in the wrong order.
func badVlans() [][]int {
	all := [][]int{{0, 0}, {4094, 4094}, {1, 0}, {4094, 0}, {4094, 4093}, {5, 6, 7, 7}, {5, 5, 6, 7}, {5, 6, 6, 7}, {6, 5, 7, 8}, {5, 7, 6, 8}, {5, 6, 8, 7}, {9, 7, 5, 3}, {3, 9, 3}, {1, 2, 3, 0}, {0, 0, 0, 0}}
	for _, wrong := range wrongVlans() {
		all = append(all, []int{wrong}, []int{wrong, 5}, []int{5, wrong}, []int{0, 5, wrong}, []int{3, wrong, 5}, []int{wrong, 0, 4094}, []int{0, 4094, wrong})
	}
	equal := upTo(0, 4094)
	equal[2000] = equal[1999]
	return append(all, equal, append(upTo(0, 4094), 4094), append(upTo(0, 4094), 4095), append([]int{-1}, upTo(0, 4094)...), append(upTo(0, 4094), 0), upTo(-4094, 0))
}

func TestCheckEveryVlan(t *testing.T) {
	f := valid()
	for vlan := -5000; vlan <= 5000; vlan++ {
		f.Vlans = []int{vlan}
		checkCheck(t, f, vlan >= 0 && vlan <= 4094)
	}
}

// Each pair of numbers, alone and with others before and behind.
func TestCheckVlanPairs(t *testing.T) {
	f := valid()
	all := append(upTo(-3, 12), append(upTo(4085, 4098), ends()...)...)
	for _, a := range all {
		for _, b := range all {
			ok := a >= 0 && a < b && b <= 4094
			f.Vlans = []int{a, b}
			checkCheck(t, f, ok)
			f.Vlans = []int{0, a, b}
			checkCheck(t, f, ok && a > 0)
			f.Vlans = []int{a, b, 4094}
			checkCheck(t, f, ok && b < 4094)
			f.Vlans = []int{a, 2000, b}
			checkCheck(t, f, ok && a < 2000 && b > 2000)
		}
	}
}

// Flags make no difference, neither for a filter that may be nor for others:
// all lists are looked at, also such as the flags make useless.
func TestCheckFlags(t *testing.T) {
	for n := range allFlags {
		checkCheck(t, flagged(valid(), n), true)
		for _, change := range changes() {
			f := flagged(valid(), n)
			change(&f)
			checkCheck(t, f, false)
		}
	}
}

// changes make a filter that Check refuses, of whatever filter they are given.
func changes() []func(*api.Filter) {
	return []func(*api.Filter){
		func(f *api.Filter) { f.Mac = "" },
		func(f *api.Filter) { f.Mac = own[:5] },
		func(f *api.Filter) { f.Mac = own + "\x00" },
		func(f *api.Filter) { f.Mac = group },
		func(f *api.Filter) { f.Mac = everyone },
		func(f *api.Filter) { f.Uni = macs(17) },
		func(f *api.Filter) { f.Uni = []string{group} },
		func(f *api.Filter) { f.Uni = append(macs(15), everyone) },
		func(f *api.Filter) { f.Uni = append(macs(15), "") },
		func(f *api.Filter) { f.Multi = groups(17) },
		func(f *api.Filter) { f.Multi = []string{own} },
		func(f *api.Filter) { f.Multi = append(groups(15), everyone) },
		func(f *api.Filter) { f.Multi = append(groups(15), "") },
		func(f *api.Filter) { f.Vlans = []int{-1} },
		func(f *api.Filter) { f.Vlans = []int{5, 4095} },
		func(f *api.Filter) { f.Vlans = []int{5, 5} },
		func(f *api.Filter) { f.Vlans = []int{6, 5} },
	}
}

func TestCheckFaults(t *testing.T) {
	for _, change := range changes() {
		f := valid()
		change(&f)
		checkCheck(t, f, false)
		for _, other := range changes() {
			two := copied(f)
			other(&two)
			checkCheck(t, two, false)
		}
	}
}

// What is behind a slice's end does not count, though it is there.
func TestCheckSpare(t *testing.T) {
	f := valid()
	f.Uni = append(macs(16), group)[:16]
	f.Multi = append(groups(16), own)[:16]
	f.Vlans = []int{3, 4, 4, -1}[:2]
	checkCheck(t, f, true)
	f.Uni = f.Uni[:17]
	checkCheck(t, f, false)
}

// P16.2

func TestAdmitsExamples(t *testing.T) {
	f := api.Filter{Mac: own}
	checkAdmits(t, f, plain(own), true)
	checkAdmits(t, f, plain(next), false)
	checkAdmits(t, f, plain(everyone), true)
	f.VlanOn = true
	checkAdmits(t, f, frameTo(own, 5), false)
	checkAdmits(t, f, plain(own), true)
	f.Vlans = []int{5}
	checkAdmits(t, f, frameTo(own, 5), true)
	checkAdmits(t, api.Filter{}, plain(own), false)
	checkAdmits(t, api.Filter{}, plain(everyone), true)
}

// noFrames are bytes for which eth.Parse returns an error, to addresses that
// an open filter admits.
func noFrames(t *testing.T) []string {
	var all []string
	for _, dst := range []string{own, group, everyone} {
		whole, tagged := plain(dst), frameTo(dst, 5)
		for n := range 14 {
			all = append(all, whole[:n])
		}
		for n := 14; n < 18; n++ {
			all = append(all, tagged[:n])
		}
		all = append(all,
			framed(dst, sender, -1, 0, 0x0800, strings.Repeat("x", 1505)),
			framed(dst, sender, 5, 0, 0x0800, strings.Repeat("x", 1501)),
			framed(dst, sender, 5, 0, 0x0800, strings.Repeat("x", 1<<16)),
			framed(dst, sender, 5|4096, 0, 0x0800, "hi"),
			framed(dst, sender, 4095, 0, 0x0800, "hi"),
			framed(dst, sender, 4095|4096, 7, 0x0800, "hi"),
			framed(dst, sender, -1, 0, 0x05ff, "hi"),
			framed(dst, sender, -1, 0, 0, "hi"),
			framed(dst, sender, 5, 0, 0x05ff, "hi"),
			framed(dst, sender, 5, 0, 0x8100, "\x00\x05\x08\x00hi"),
		)
	}
	for _, s := range all {
		if _, e := eth.Parse(s); e == api.OK {
			t.Fatalf("%x is a frame", s)
		}
	}
	return all
}

// Whatever the filter is, bytes that are no frame are not admitted.
func TestAdmitsNoFrames(t *testing.T) {
	open := api.Filter{Mac: own, Uni: []string{own, ""}, Multi: []string{group, ""}, Vlans: upTo(-1, 8191)}
	for _, s := range noFrames(t) {
		for n := range allFlags {
			checkAdmits(t, flagged(open, n), s, false)
			checkAdmits(t, flagged(api.Filter{}, n), s, false)
		}
	}
}

// The greatest and the least frames are frames.
func TestAdmitsSizes(t *testing.T) {
	f := api.Filter{Mac: own, VlanOn: true, Vlans: []int{5}}
	for _, n := range []int{0, 1, 46, 1499, 1500} {
		checkAdmits(t, f, framed(own, sender, -1, 0, 0x0800, strings.Repeat("x", n)), true)
		checkAdmits(t, f, framed(own, sender, 5, 0, 0x0800, strings.Repeat("x", n)), true)
	}
	checkAdmits(t, f, framed(own, sender, -1, 0, 0x0800, strings.Repeat("x", 1504)), true)
}

// Of one address, of many and of all: which flags admit what, written out.
func TestAdmitsOne(t *testing.T) {
	for _, x := range []struct {
		flags           int
		mac, uni, other bool
	}{
		{0, true, true, false},
		{noUni, false, false, false},
		{allUni, true, true, true},
		{allUni | noUni, true, true, true},
		{promisc, true, true, true},
		{promisc | noUni, true, true, true},
		{allMulti, true, true, false},
		{noMulti, true, true, false},
		{noAll, true, true, false},
		{allMulti | noUni, false, false, false},
		{noMulti | noAll | noUni, false, false, false},
		{noMulti | noAll, true, true, false},
		{noMulti | noAll | noUni | allUni, true, true, true},
	} {
		f := flagged(api.Filter{Mac: own, Uni: []string{next}, Multi: []string{group}}, x.flags)
		checkAdmits(t, f, plain(own), x.mac)
		checkAdmits(t, f, plain(next), x.uni)
		checkAdmits(t, f, plain(sender), x.other)
	}
}

func TestAdmitsMany(t *testing.T) {
	for _, x := range []struct {
		flags         int
		listed, other bool
	}{
		{0, true, false},
		{noMulti, false, false},
		{allMulti, true, true},
		{allMulti | noMulti, true, true},
		{promisc, true, true},
		{promisc | noMulti, true, true},
		{allUni, true, false},
		{noUni, true, false},
		{noAll, true, false},
		{allUni | noMulti, false, false},
		{noUni | noAll | noMulti, false, false},
		{noUni | noAll, true, false},
		{noUni | noAll | noMulti | allMulti, true, true},
	} {
		f := flagged(api.Filter{Mac: own, Uni: []string{next}, Multi: []string{group}}, x.flags)
		checkAdmits(t, f, plain(group), x.listed)
		checkAdmits(t, f, plain(groupMac(1)), x.other)
	}
}

func TestAdmitsAll(t *testing.T) {
	for _, x := range []struct {
		flags int
		want  bool
	}{
		{0, true},
		{noAll, false},
		{promisc | noAll, true},
		{noAll | allMulti, false},
		{noAll | allUni | allMulti, false},
		{noMulti, true},
		{noUni | noMulti, true},
		{promisc, true},
		{allMulti, true},
	} {
		f := flagged(api.Filter{Mac: own, Uni: []string{next}, Multi: []string{group}}, x.flags)
		checkAdmits(t, f, plain(everyone), x.want)
		// That address in the lists, and for Mac, makes no difference.
		checkAdmits(t, flagged(api.Filter{Mac: everyone, Uni: []string{everyone}, Multi: []string{everyone}}, x.flags), plain(everyone), x.want)
		checkAdmits(t, flagged(api.Filter{}, x.flags), plain(everyone), x.want)
	}
}

// wantOf is what Admits is held against, for a frame to this address with a
// tag, or without one if vlan is -1.
func wantOf(f api.Filter, dst string, vlan int) bool {
	if f.VlanOn && vlan != -1 && !slices.Contains(f.Vlans, vlan) {
		return false
	}
	toAll, toOne := dst == everyone, dst[0]%2 == 0
	named := f.Multi
	if toOne {
		named = append([]string{f.Mac}, f.Uni...)
	}
	all, none := f.AllMulti, f.NoMulti
	if toOne {
		all, none = f.AllUni, f.NoUni
	}
	if toAll {
		all, none = !f.NoAll, true
	}
	return f.Promisc || all || !none && slices.Contains(named, dst)
}

// All flags, alone and together, with every kind of address in every place and
// with each case of a tag.
func TestAdmitsEveryFlag(t *testing.T) {
	base := valid()
	dsts := []string{own, next, group, everyone, sender, base.Uni[0], base.Uni[2], base.Uni[4], base.Multi[0], base.Multi[2], base.Multi[4], groupMac(9), mac(9)}
	for n := range allFlags {
		f := flagged(base, n)
		for _, dst := range dsts {
			for _, vlan := range []int{-1, 0, 1, 5, 299, 300, 301, 4093, 4094} {
				checkAdmits(t, f, frameTo(dst, vlan), wantOf(f, dst, vlan))
			}
		}
	}
}

// Each place of lists of each size, also of such as Check refuses, and of
// addresses that the lists don't have.
func TestAdmitsPlaces(t *testing.T) {
	for _, n := range append(upTo(0, 18), 100, 1000) {
		f := api.Filter{Mac: own, Uni: macs(n), Multi: groups(n)}
		for i := range n {
			checkAdmits(t, f, plain(f.Uni[i]), true)
			checkAdmits(t, f, plain(f.Multi[i]), true)
		}
		checkAdmits(t, f, plain(mac(n+1)), false)
		checkAdmits(t, f, plain(groupMac(n+1)), false)
		checkAdmits(t, f, plain(own), true)
	}
}

// Lists in ascending and in descending order, and with an address more than once.
func TestAdmitsOrders(t *testing.T) {
	for _, n := range []int{2, 3, 8, 15, 16} {
		up := api.Filter{Mac: own, Uni: slices.Sorted(slices.Values(macs(n))), Multi: slices.Sorted(slices.Values(groups(n)))}
		down := copied(up)
		slices.Reverse(down.Uni)
		slices.Reverse(down.Multi)
		twice := api.Filter{Mac: own, Uni: slices.Concat(down.Uni, up.Uni), Multi: slices.Concat(down.Multi, up.Multi)}
		for i := range n {
			for _, f := range []api.Filter{up, down, twice} {
				checkAdmits(t, f, plain(up.Uni[i]), true)
				checkAdmits(t, f, plain(up.Multi[i]), true)
				checkAdmits(t, f, plain(next), false)
				checkAdmits(t, f, plain(group), false)
			}
		}
	}
}

// An address in the list of the other kind, or one for many that is Mac, is
// not admitted for that.
func TestAdmitsOtherList(t *testing.T) {
	f := api.Filter{Mac: group, Uni: append(groups(4), group), Multi: append(macs(4), own)}
	for i := range 4 {
		checkAdmits(t, f, plain(f.Uni[i]), false)
		checkAdmits(t, f, plain(f.Multi[i]), false)
	}
	checkAdmits(t, f, plain(own), false)
	checkAdmits(t, f, plain(group), false)
	f.Mac = own
	checkAdmits(t, f, plain(own), true)
}

// An address that differs in one bit is another one, also where it is of
// another kind.
func TestAdmitsNearAddresses(t *testing.T) {
	for _, f := range []api.Filter{{Mac: own}, {Mac: sender, Uni: []string{own}}, {Mac: sender, Multi: []string{group}}, {Mac: sender, Uni: []string{mac(1), own, mac(2)}, Multi: []string{groupMac(1), group, groupMac(2)}}} {
		for _, dst := range []string{own, group} {
			for bit := range 48 {
				b := []byte(dst)
				b[bit/8] ^= 1 << (bit % 8)
				checkAdmits(t, f, plain(string(b)), false)
			}
		}
	}
	for bit := range 48 {
		b := []byte(everyone)
		b[bit/8] ^= 1 << (bit % 8)
		checkAdmits(t, api.Filter{Mac: own}, plain(string(b)), false)
	}
}

// A part of an address, and one with more bytes, is none.
func TestAdmitsOtherSizes(t *testing.T) {
	for n := range 6 {
		f := api.Filter{Mac: own[:n], Uni: []string{own[:n], own[n:] + own, own + "\x00"}, Multi: []string{group[:n], group + group[n:], group[1:]}}
		checkAdmits(t, f, plain(own), false)
		checkAdmits(t, f, plain(group), false)
	}
}

// Src makes no difference: neither one that is in the lists nor one that isn't.
func TestAdmitsSrc(t *testing.T) {
	base := valid()
	for n := range allFlags {
		f := flagged(base, n)
		for _, dst := range []string{own, base.Uni[1], next, base.Multi[1], group, everyone} {
			for _, src := range []string{own, base.Uni[1], next, sender, base.Multi[1], group, everyone, "\x00\x00\x00\x00\x00\x00"} {
				for _, vlan := range []int{-1, 5, 7} {
					checkAdmits(t, f, framed(dst, src, vlan, 0, 0x0800, "hi"), wantOf(f, dst, vlan))
				}
			}
		}
	}
}

// Neither does a tag's priority, a type, or what follows.
func TestAdmitsRest(t *testing.T) {
	f := api.Filter{Mac: own, VlanOn: true, Vlans: []int{0, 5}}
	for pri := range 8 {
		for _, frameType := range []int{0x0600, 0x0800, 0x80ff, 0x8101, 0x86dd, 0xffff} {
			for _, body := range []string{"", "h", "hello", "\x81\x00\x00\x05\x08\x00", own + next} {
				for _, vlan := range []int{0, 5} {
					checkAdmits(t, f, framed(own, sender, vlan, pri, frameType, body), true)
					checkAdmits(t, f, framed(next, sender, vlan, pri, frameType, body), false)
					checkAdmits(t, f, framed(own, sender, vlan+1, pri, frameType, body), false)
				}
				checkAdmits(t, f, framed(own, sender, -1, 0, frameType, body), true)
			}
		}
	}
}

// Every number of a VLAN, where only it is in Vlans and where all others are.
func TestAdmitsEveryVlan(t *testing.T) {
	for vlan := range 4095 {
		only := api.Filter{Mac: own, VlanOn: true, Vlans: []int{vlan}}
		others := api.Filter{Mac: own, VlanOn: true, Vlans: slices.Concat(upTo(0, vlan-1), upTo(vlan+1, 4094))}
		none := api.Filter{Mac: own, VlanOn: true}
		checkAdmits(t, only, frameTo(own, vlan), true)
		checkAdmits(t, only, frameTo(own, (vlan+1)%4095), false)
		checkAdmits(t, only, frameTo(own, (vlan+4094)%4095), false)
		checkAdmits(t, others, frameTo(own, vlan), false)
		checkAdmits(t, others, frameTo(own, (vlan+1)%4095), true)
		checkAdmits(t, none, frameTo(own, vlan), false)
		only.VlanOn, others.VlanOn, none.VlanOn = false, false, false
		checkAdmits(t, only, frameTo(own, (vlan+1)%4095), true)
		checkAdmits(t, others, frameTo(own, vlan), true)
		checkAdmits(t, none, frameTo(own, vlan), true)
	}
}

// A promiscuous device, and one that admits all of a kind, does not accept
// what is tagged for another VLAN.
func TestAdmitsVlanOverAll(t *testing.T) {
	for n := range vlanOn {
		for _, dst := range []string{own, next, group, everyone} {
			f := flagged(api.Filter{Mac: own, Vlans: []int{5, 4094}}, n|vlanOn)
			for _, vlan := range []int{0, 4, 6, 4093} {
				checkAdmits(t, f, frameTo(dst, vlan), false)
			}
			for _, vlan := range []int{-1, 5, 4094} {
				checkAdmits(t, f, frameTo(dst, vlan), wantOf(f, dst, -1))
			}
			f.Vlans = nil
			checkAdmits(t, f, frameTo(dst, 0), false)
			checkAdmits(t, f, frameTo(dst, 5), false)
			checkAdmits(t, f, plain(dst), wantOf(f, dst, -1))
		}
	}
}

// A frame without a tag is in no VLAN that a filter could refuse, whatever
// Vlans are; one whose tag has the number 0 is in that VLAN.
func TestAdmitsNoTag(t *testing.T) {
	for _, vlans := range append(badVlans(), nil, []int{}, []int{-1}, []int{0}, []int{5}, []int{4095}, upTo(0, 4094)) {
		f := api.Filter{Mac: own, VlanOn: true, Vlans: vlans}
		checkAdmits(t, f, plain(own), true)
		checkAdmits(t, f, plain(next), false)
		checkAdmits(t, f, frameTo(own, 0), slices.Contains(vlans, 0))
	}
}

// A number that no tag can have does not admit a frame that has none, nor one
// with the same lower bits.
func TestAdmitsWrongVlans(t *testing.T) {
	f := api.Filter{Mac: own, VlanOn: true, Promisc: true, Vlans: wrongVlans()}
	for _, vlan := range []int{0, 1, 2, 5, 4091, 4093, 4094} {
		checkAdmits(t, f, frameTo(own, vlan), false)
	}
	checkAdmits(t, f, framed(own, sender, 4095, 0, 0x0800, "hi"), false)
	checkAdmits(t, f, plain(own), true)
}

// Filters that Check refuses: numbers in any order are all found, and what is
// wrong elsewhere makes no difference.
func TestAdmitsVlansInAnyOrder(t *testing.T) {
	for _, vlans := range append(badVlans(), []int{9, 3, 7, 1, 4094, 0, 8}, []int{4094, 2000, 0}, []int{math.MaxInt, 5, math.MinInt, 7, -1}) {
		f := api.Filter{Mac: own, VlanOn: true, Vlans: vlans}
		for _, vlan := range []int{0, 1, 2, 3, 4, 5, 6, 7, 8, 9, 10, 1999, 2000, 2001, 4092, 4093, 4094} {
			checkAdmits(t, f, frameTo(own, vlan), slices.Contains(vlans, vlan))
		}
	}
	down := upTo(0, 4094)
	slices.Reverse(down)
	f := api.Filter{Mac: own, VlanOn: true, Vlans: down}
	for vlan := range 4095 {
		checkAdmits(t, f, frameTo(own, vlan), true)
	}
}

func TestAdmitsRefusedFilters(t *testing.T) {
	for n := range allFlags {
		for _, change := range changes() {
			f := flagged(valid(), n)
			change(&f)
			if filter.Check(f) != api.ErrFilterForm {
				t.Fatal(text(f))
			}
			for _, dst := range []string{own, next, group, everyone, mac(3), groupMac(3)} {
				for _, vlan := range []int{-1, 0, 5, 6, 4094} {
					checkAdmits(t, f, frameTo(dst, vlan), wantOf(f, dst, vlan))
				}
			}
		}
	}
}

// Filters and frames of any kind.
func TestAdmitsAny(t *testing.T) {
	r := &numbers{1}
	for range 20000 {
		f, dst, vlan := r.filter(), r.mac(), r.below(12)-1
		checkAdmits(t, f, framed(dst, r.mac(), vlan, r.below(8)*min(vlan+1, 1), 0x0800, ""), wantOf(f, dst, vlan))
	}
}

// mac is one of few addresses of each kind.
func (r *numbers) mac() string {
	return []string{own, next, sender, mac(1), mac(2), group, groupMac(1), groupMac(2), groupMac(3), everyone}[r.below(10)]
}

// filter is one of few addresses and numbers that need not be allowed.
func (r *numbers) filter() api.Filter {
	f := flagged(api.Filter{Mac: r.mac()}, r.below(allFlags)&r.below(allFlags))
	for range r.below(5) {
		f.Uni = append(f.Uni, r.mac())
	}
	for range r.below(5) {
		f.Multi = append(f.Multi, r.mac())
	}
	for range r.below(8) {
		f.Vlans = append(f.Vlans, r.below(13)-1)
	}
	return f
}

// P16.3

func TestAddExamples(t *testing.T) {
	f := valid()
	f.Vlans = []int{3, 9}
	checkAdd(t, f, 5, []int{3, 5, 9})
	checkAdd(t, f, 3, []int{3, 9})
	checkAdd(t, f, 9, []int{3, 9})
	checkAdd(t, f, 0, []int{0, 3, 9})
	checkAdd(t, f, 2, []int{2, 3, 9})
	checkAdd(t, f, 10, []int{3, 9, 10})
	checkAdd(t, f, 4094, []int{3, 9, 4094})
	f.Vlans = nil
	checkAdd(t, f, 0, []int{0})
	checkAdd(t, f, 4094, []int{4094})
	f.Vlans = []int{0, 4094}
	checkAdd(t, f, 0, []int{0, 4094})
	checkAdd(t, f, 4094, []int{0, 4094})
	checkAdd(t, f, 1, []int{0, 1, 4094})
}

func TestDelExamples(t *testing.T) {
	f := valid()
	f.Vlans = []int{3, 5, 9}
	checkDel(t, f, 3, []int{5, 9})
	checkDel(t, f, 5, []int{3, 9})
	checkDel(t, f, 9, []int{3, 5})
	for _, vlan := range []int{0, 2, 4, 6, 8, 10, 4094} {
		checkDel(t, f, vlan, []int{3, 5, 9})
	}
	f.Vlans = nil
	checkDel(t, f, 0, nil)
	checkDel(t, f, 4094, nil)
	f.Vlans = []int{0}
	checkDel(t, f, 0, nil)
	checkDel(t, f, 1, []int{0})
	f.Vlans = []int{4094}
	checkDel(t, f, 4094, nil)
	f.Vlans = []int{0, 4094}
	checkDel(t, f, 0, []int{4094})
	checkDel(t, f, 4094, []int{0})
}

// sortedLists are such as P16.1 allows.
func sortedLists() [][]int {
	return [][]int{nil, {}, {0}, {5}, {4094}, {0, 4094}, {0, 1, 2}, {4092, 4093, 4094}, {1, 3, 5, 7, 9, 11}, {0, 5, 6, 300, 4094}, upTo(100, 164), upTo(0, 4094), upTo(1, 4093)}
}

// Every number, with lists of each kind, against sets of numbers.
func TestAddAndDelEveryVlan(t *testing.T) {
	for _, vlans := range sortedLists() {
		set := map[int]int{}
		for _, v := range vlans {
			set[v] = 1
		}
		f := valid()
		f.Vlans = vlans
		for vlan := range 4095 {
			if len(vlans) > 1000 && vlan > 40 && vlan < 4050 {
				continue
			}
			var with, without []int
			for v := range 4095 {
				if set[v] == 1 || v == vlan {
					with = append(with, v)
				}
				if set[v] == 1 && v != vlan {
					without = append(without, v)
				}
			}
			checkAdd(t, f, vlan, with)
			checkDel(t, f, vlan, without)
		}
	}
}

func TestAddAndDelWrongVlans(t *testing.T) {
	for _, vlans := range sortedLists() {
		f := valid()
		f.Vlans = vlans
		for _, vlan := range wrongVlans() {
			checkNeither(t, f, vlan)
			checkNeither(t, flagged(f, vlanOn|promisc), vlan)
			checkNeither(t, api.Filter{Vlans: vlans}, vlan)
		}
	}
}

// Lists that P16.1 does not allow, with a number that would be in them already,
// or be the first or the last one, and with one that is none.
func TestAddAndDelBadVlans(t *testing.T) {
	for _, vlans := range badVlans() {
		f := valid()
		f.Vlans = vlans
		for _, vlan := range []int{0, 1, 5, 6, 7, 2000, 4093, 4094, -1, 4095, math.MinInt, math.MaxInt} {
			checkNeither(t, f, vlan)
			checkNeither(t, api.Filter{Vlans: vlans}, vlan)
		}
	}
}

// All else stays as it was, also where it is as P16.1 does not allow.
func TestAddAndDelRest(t *testing.T) {
	for n := range allFlags {
		for _, f := range []api.Filter{
			{}, {Mac: own}, {Mac: group}, {Mac: everyone}, {Mac: "x"}, {Mac: own + own},
			{Mac: own, Uni: macs(16), Multi: groups(16)},
			{Mac: own, Uni: macs(17), Multi: groups(40)},
			{Mac: own, Uni: groups(3), Multi: macs(3)},
			{Mac: own, Uni: []string{next, next, "", "x", everyone}, Multi: []string{own, group, group, ""}},
		} {
			f = flagged(f, n)
			f.Vlans = []int{4, 8}
			checkAdd(t, f, 6, []int{4, 6, 8})
			checkAdd(t, f, 8, []int{4, 8})
			checkDel(t, f, 4, []int{8})
			checkDel(t, f, 6, []int{4, 8})
		}
	}
}

// Numbers that are added and removed in any order, against a set of them.
func TestAddAndDelInAnyOrder(t *testing.T) {
	r := &numbers{7}
	f, set := valid(), [4095]bool{}
	for _, v := range f.Vlans {
		set[v] = true
	}
	for i := range 6000 {
		vlan := r.below(4095)
		if i%3 == 0 {
			vlan = r.below(20)
		}
		var e api.Errno
		if add := r.below(5) < 3; add {
			f, e = filter.Add(f, vlan)
			set[vlan] = true
		} else {
			f, e = filter.Del(f, vlan)
			set[vlan] = false
		}
		var want []int
		for v, in := range set {
			if in {
				want = append(want, v)
			}
		}
		if e != api.OK || !slices.Equal(f.Vlans, want) {
			t.Fatalf("%d calls, the last one with %d: %s, %d, want %v", i+1, vlan, text(f), e, want)
		}
	}
	f.Vlans = nil
	if !same(f, api.Filter{Mac: own, Uni: macs(5), Multi: groups(5)}) {
		t.Error(text(f))
	}
}

// All numbers, added in descending order and removed in ascending order.
func TestAddAndDelAll(t *testing.T) {
	f := api.Filter{Mac: own}
	for vlan := 4094; vlan >= 0; vlan-- {
		f, _ = filter.Add(f, vlan)
	}
	if !slices.Equal(f.Vlans, upTo(0, 4094)) || filter.Check(f) != api.OK {
		t.Error(text(f))
	}
	for vlan := range 4095 {
		f, _ = filter.Del(f, vlan)
	}
	if !same(f, api.Filter{Mac: own}) {
		t.Error(text(f))
	}
}

// A filter that Check accepts is still one, and one that it refuses for
// something else is still refused.
func TestAddAndDelCheck(t *testing.T) {
	for _, vlan := range []int{0, 1, 5, 7, 300, 4093, 4094} {
		f, _ := filter.Add(valid(), vlan)
		checkCheck(t, f, true)
		f, _ = filter.Del(valid(), vlan)
		checkCheck(t, f, true)
		f, _ = filter.Add(api.Filter{Mac: group}, vlan)
		checkCheck(t, f, false)
		f, _ = filter.Del(api.Filter{Mac: group}, vlan)
		checkCheck(t, f, false)
	}
}

// R4

// roomy is f, each of whose slices lies amid a longer one; whole are these.
func roomy(f api.Filter) (g, whole api.Filter) {
	whole = api.Filter{
		Uni:   slices.Concat(macs(2), f.Uni, groups(3)),
		Multi: slices.Concat(groups(2), f.Multi, macs(3)),
		Vlans: slices.Concat([]int{-7, -8}, f.Vlans, []int{-9, 7000, 3}),
	}
	g = f
	g.Uni = whole.Uni[2 : 2+len(f.Uni)]
	g.Multi = whole.Multi[2 : 2+len(f.Multi)]
	g.Vlans = whole.Vlans[2 : 2+len(f.Vlans)]
	return g, whole
}

// overwrite changes all elements of f's slices, with their spare capacity.
func overwrite(f api.Filter) {
	overwriteTexts(f.Uni, "u")
	overwriteTexts(f.Multi, "m")
	overwriteNumbers(f.Vlans, -77)
}

func overwriteTexts(l []string, s string) {
	l = l[:cap(l)]
	for i := range l {
		l[i] = s
	}
}

func overwriteNumbers(l []int, v int) {
	l = l[:cap(l)]
	for i := range l {
		l[i] = v
	}
}

// calls are Add and Del with a number that is there and one that is not, and
// with errors.
func calls() []func(api.Filter) api.Filter {
	var all []func(api.Filter) api.Filter
	for _, vlan := range []int{0, 1, 5, 6, 7, 4094, -1, 4095} {
		all = append(all,
			func(f api.Filter) api.Filter { g, _ := filter.Add(f, vlan); return g },
			func(f api.Filter) api.Filter { g, _ := filter.Del(f, vlan); return g },
		)
	}
	return all
}

// lists are filters with slices of several lengths.
func lists() []api.Filter {
	return []api.Filter{
		{Mac: own}, valid(),
		{Mac: own, Uni: macs(1), Vlans: []int{5}},
		{Mac: own, Multi: groups(1), Vlans: []int{6}},
		{Mac: own, Uni: macs(16), Multi: groups(16), Vlans: upTo(0, 4094)},
		{Mac: own, Vlans: []int{1, 2, 3, 4, 5, 6, 7}},
		{Uni: macs(17), Multi: groups(17), Vlans: []int{6, 5}},
	}
}

// All functions leave what was handed in as it was, with what is around it.
func TestHandedInIsLeft(t *testing.T) {
	for _, base := range lists() {
		f, whole := roomy(base)
		saved := copied(whole)
		for _, call := range calls() {
			call(f)
			filter.Check(f)
			for _, vlan := range []int{-1, 5, 4094} {
				filter.Admits(f, frameTo(mac(1), vlan))
				filter.Admits(f, frameTo(groupMac(1), vlan))
			}
			if !same(whole, saved) {
				t.Fatalf("%s: %s around it, and before %s", text(base), text(whole), text(saved))
			}
		}
	}
}

// What was returned is the caller's own, with its spare capacity: changing it
// changes nothing that was handed in, and no other result.
func TestResultIsNew(t *testing.T) {
	for _, base := range lists() {
		for _, call := range calls() {
			f, whole := roomy(base)
			saved := copied(whole)
			other := call(f)
			want := copied(other)
			overwrite(call(f))
			if !same(whole, saved) || !same(other, want) || !same(call(f), want) {
				t.Fatalf("%s: %s, %s", text(base), text(whole), text(other))
			}
		}
	}
}

// What was handed in is not kept: changing it changes no result.
func TestHandedInIsNotKept(t *testing.T) {
	for _, base := range lists() {
		for _, call := range calls() {
			f, whole := roomy(base)
			got := call(f)
			want := copied(got)
			overwrite(whole)
			if !same(got, want) {
				t.Fatalf("%s: %s, and before %s", text(base), text(got), text(want))
			}
		}
	}
}

// The slices of one result share nothing, also where those that were handed in
// do, and where one goes on behind another's end.
func TestResultSharesNothing(t *testing.T) {
	shared := slices.Concat(macs(4), groups(4))
	for _, f := range []api.Filter{
		valid(),
		{Mac: own, Uni: shared, Multi: shared, Vlans: []int{5}},
		{Mac: own, Uni: shared[:4], Multi: shared[4:], Vlans: []int{5}},
		{Mac: own, Uni: shared[:0], Multi: shared[:3], Vlans: []int{5}},
	} {
		for _, call := range calls() {
			g := call(f)
			uni, multi := slices.Clone(g.Uni), slices.Clone(g.Multi)
			overwriteTexts(g.Uni, "u")
			if !slices.Equal(g.Multi, multi) {
				t.Errorf("%s: Multi changes with Uni: %x", text(f), g.Multi)
			}
			g = call(f)
			overwriteTexts(g.Multi, "m")
			if !slices.Equal(g.Uni, uni) {
				t.Errorf("%s: Uni changes with Multi: %x", text(f), g.Uni)
			}
		}
	}
	if !slices.Equal(shared, slices.Concat(macs(4), groups(4))) {
		t.Errorf("%x", shared)
	}
}

// Filters that came of one another are independent.
func TestChainOfFilters(t *testing.T) {
	var all, saved []api.Filter
	f := valid()
	for vlan := range 40 {
		f, _ = filter.Add(f, vlan)
		all, saved = append(all, f), append(saved, copied(f))
		f, _ = filter.Del(f, vlan/2)
		all, saved = append(all, f), append(saved, copied(f))
	}
	for i := range all {
		overwrite(all[i])
		for k := i + 1; k < len(all); k++ {
			if !same(all[k], saved[k]) {
				t.Fatalf("%d changes with %d", k, i)
			}
		}
	}
}

// P16.4

// wider are what admits at least as much as f: with one flag more, with one
// address more, with one VLAN number more.
func wider(f api.Filter, r *numbers) []api.Filter {
	var all []api.Filter
	for _, open := range []func(*api.Filter){
		func(g *api.Filter) { g.Promisc = true },
		func(g *api.Filter) { g.AllUni = true },
		func(g *api.Filter) { g.AllMulti = true },
		func(g *api.Filter) { g.Uni = slices.Insert(g.Uni, r.below(len(g.Uni)+1), r.mac()) },
		func(g *api.Filter) { g.Multi = slices.Insert(g.Multi, r.below(len(g.Multi)+1), r.mac()) },
		func(g *api.Filter) { g.Vlans = slices.Insert(g.Vlans, r.below(len(g.Vlans)+1), r.below(4095)) },
	} {
		g := copied(f)
		open(&g)
		all = append(all, g)
	}
	for _, vlan := range []int{0, 5, 4094, r.below(12), r.below(4095)} {
		if g, e := filter.Add(f, vlan); e == api.OK {
			all = append(all, g)
		}
	}
	return all
}

func TestWiderAdmitsMore(t *testing.T) {
	r := &numbers{3}
	dsts := []string{own, next, sender, mac(1), group, groupMac(1), groupMac(2), everyone}
	admitted := 0
	for range 300 {
		f := r.filter()
		if r.below(2) == 0 {
			slices.Sort(f.Vlans)
			f.Vlans = slices.Compact(f.Vlans)
		}
		for _, g := range wider(f, r) {
			for _, dst := range dsts {
				for vlan := -1; vlan < 11; vlan++ {
					s := frameTo(dst, vlan)
					if !filter.Admits(f, s) {
						continue
					}
					admitted++
					checkAdmits(t, g, s, true)
				}
			}
		}
	}
	if admitted < 1000 {
		t.Errorf("only %d frames were admitted", admitted)
	}
}

// A filter with each flag set, or with more addresses, admits what it did
// before; here for each state of the other flags.
func TestWiderWithEveryFlag(t *testing.T) {
	base, r := valid(), &numbers{5}
	for n := range allFlags {
		f := flagged(base, n)
		for _, g := range wider(f, r) {
			for _, dst := range []string{own, next, base.Uni[0], base.Uni[4], base.Multi[0], base.Multi[4], group, everyone} {
				for _, vlan := range []int{-1, 0, 5, 7, 4094} {
					if s := frameTo(dst, vlan); filter.Admits(f, s) {
						checkAdmits(t, g, s, true)
					}
				}
			}
		}
	}
}

// A number that was added is there, one that was removed is not, and what
// else was admitted still is.
func TestAddedAndRemoved(t *testing.T) {
	for _, vlans := range sortedLists() {
		f := valid()
		f.VlanOn, f.Vlans = true, vlans
		for _, vlan := range []int{0, 1, 4, 5, 6, 100, 131, 164, 2000, 4092, 4093, 4094} {
			with, e := filter.Add(f, vlan)
			if e != api.OK || !slices.Contains(with.Vlans, vlan) {
				t.Fatalf("Add(%s, %d): %s, %d", text(f), vlan, text(with), e)
			}
			checkAdmits(t, with, frameTo(own, vlan), true)
			without, e := filter.Del(with, vlan)
			if e != api.OK || slices.Contains(without.Vlans, vlan) {
				t.Fatalf("Del(%s, %d): %s, %d", text(with), vlan, text(without), e)
			}
			checkAdmits(t, without, frameTo(own, vlan), false)
			for _, v := range []int{0, 1, 5, 100, 2000, 4093, 4094} {
				if v != vlan {
					in := slices.Contains(vlans, v)
					checkAdmits(t, with, frameTo(own, v), in)
					checkAdmits(t, without, frameTo(own, v), in)
				}
			}
			if !slices.Contains(vlans, vlan) && !same(without, f) {
				t.Errorf("%d added and removed: %s, and before %s", vlan, text(without), text(f))
			}
			checkAdd(t, with, vlan, with.Vlans)
			checkDel(t, without, vlan, without.Vlans)
		}
	}
}

// R5: earlier calls, with other filters and frames, make no difference.
func TestAgain(t *testing.T) {
	f := valid()
	f.VlanOn = true
	for range 3 {
		checkAdmits(t, f, frameTo(own, 5), true)
		checkAdmits(t, api.Filter{Mac: own, VlanOn: true}, frameTo(own, 5), false)
		checkAdmits(t, flagged(f, noUni), plain(own), false)
		checkAdd(t, f, 7, []int{0, 5, 6, 7, 300, 4094})
		checkDel(t, f, 5, []int{0, 6, 300, 4094})
		checkNeither(t, f, 4095)
		checkCheck(t, api.Filter{}, false)
		checkCheck(t, f, true)
	}
}
