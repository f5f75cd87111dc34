package devq_test

import (
	"encoding/binary"
	"fmt"
	"math"
	"math/big"
	"slices"
	"testing"

	"aqueduct/api"
	"aqueduct/devq"
	"aqueduct/gmem"
)

// The bits of a descriptor's flags, as the chapter on descriptors numbers them.
const (
	nextBit     = 1
	writeBit    = 2
	indirectBit = 4
	availBit    = 128
	usedBit     = 32768
)

// maxAccesses is how many a call makes at most.
const maxAccesses = 130

// ends are numbers at the ends of an int, and such as are small ones where
// their sign or their upper bits are lost.
func ends() []int {
	return []int{math.MinInt, math.MinInt + 1, math.MinInt + 16, math.MinInt32, -1 << 32, -1<<32 + 1, -65536, -65535, -16, -4, -2, -1, 1<<32 + 1, 1<<62 + 1, math.MaxInt - 15, math.MaxInt - 1, math.MaxInt}
}

// bools are both settings of a wrap counter.
func bools() []bool { return []bool{false, true} }

// numbers are some without a pattern, always the same ones.
type numbers struct{ seed uint32 }

func (r *numbers) below(n int) int {
	r.seed = r.seed*1664525 + 1013904223
	return int(r.seed>>8) % n
}

func (r *numbers) bytes(n int) string {
	b := make([]byte, n)
	for i := range b {
		b[i] = byte(r.below(256))
	}
	return string(b)
}

// encoding has the bytes of a descriptor, by the library's own encodings.
func encoding(d api.Desc) string {
	b := binary.LittleEndian.AppendUint64(nil, d.Addr)
	b = binary.LittleEndian.AppendUint32(b, d.Len)
	b = binary.LittleEndian.AppendUint16(b, uint16(d.Id))
	return string(binary.LittleEndian.AppendUint16(b, uint16(d.Flags)))
}

// decoding is the descriptor of these bytes.
func decoding(s string) api.Desc {
	b := []byte(s)
	return api.Desc{
		Addr:  binary.LittleEndian.Uint64(b),
		Len:   binary.LittleEndian.Uint32(b[8:]),
		Id:    int(binary.LittleEndian.Uint16(b[12:])),
		Flags: int(binary.LittleEndian.Uint16(b[14:])),
	}
}

// eventBytes are those of an event.
func eventBytes(e api.Event) string {
	off := uint16(e.Off)
	if e.Wrap {
		off += 32768
	}
	b := binary.LittleEndian.AppendUint16(nil, off)
	return string(binary.LittleEndian.AppendUint16(b, uint16(e.Flags)))
}

// model is what a queue is held against. Its positions are numbers of steps
// from slot 0 with Wrap true, so that none comes again.
type model struct {
	l                api.Lay
	next, back, told int
	out              int
	broken           bool
}

func (w *model) slot(steps int) int { return steps % w.l.Size }

func (w *model) wrap(steps int) bool { return steps/w.l.Size%2 == 0 }

// offset is where the descriptor of a position is.
func (w *model) offset(steps int) int { return w.l.Ring + 16*w.slot(steps) }

// inside tells whether the bytes of a descriptor are within this many.
func inside(d api.Desc, size int) bool {
	end := new(big.Int).Add(new(big.Int).SetUint64(d.Addr), big.NewInt(int64(d.Len)))
	return end.Cmp(big.NewInt(int64(size))) <= 0
}

// bits are how available and used are stated for a wrap counter.
func bits(wrap, used bool) int {
	switch {
	case wrap && used:
		return availBit + usedBit
	case wrap:
		return availBit
	case used:
		return 0
	}
	return usedBit
}

// offered is the chain at NEXT, if there is one; whether it is malformed; and
// the offsets of the descriptors of the ring and of the table that it has.
func (w *model) offered(image string) (c api.Chain, is, bad bool, ring, table []int) {
	if w.out == w.l.Size {
		return c, false, false, nil, nil
	}
	var naming []api.Desc
	for steps := w.next; ; steps++ {
		if steps-w.next == w.l.Size-w.out || steps-w.next == 64 {
			return api.Chain{}, false, true, ring, nil
		}
		at := w.offset(steps)
		d := decoding(image[at : at+16])
		ring, naming, c.Id = append(ring, at), append(naming, d), d.Id
		if steps == w.next && d.Flags&(availBit+usedBit) != bits(w.wrap(steps), false) {
			return api.Chain{}, false, false, ring, nil
		}
		if d.Flags&nextBit == 0 {
			break
		}
	}
	c.Count = len(ring)
	if d := naming[0]; c.Count == 1 && d.Flags&indirectBit != 0 {
		if d.Len == 0 || d.Len%16 != 0 || d.Len > 1024 || !inside(d, len(image)) {
			return api.Chain{}, false, true, ring, nil
		}
		naming = nil
		for at := int(d.Addr); at < int(d.Addr)+int(d.Len); at += 16 {
			table, naming = append(table, at), append(naming, decoding(image[at:at+16]))
		}
	}
	for i, d := range naming {
		write := d.Flags&writeBit != 0
		follows := i > 0 && naming[i-1].Flags&writeBit != 0
		if d.Flags&indirectBit != 0 || d.Len == 0 || !inside(d, len(image)) || follows && !write {
			return api.Chain{}, false, true, ring, table
		}
		c.Parts = append(c.Parts, api.Part{At: int(d.Addr), N: int(d.Len), Write: write})
	}
	return c, true, false, ring, table
}

// need is whether the driver must be notified: each position that was left is
// held against the event.
func (w *model) need(image string) bool {
	b := []byte(image[w.l.Drv:])
	off, flags := int(binary.LittleEndian.Uint16(b)), int(binary.LittleEndian.Uint16(b[2:]))
	if w.back-w.told > w.l.Size {
		return flags == 0 || flags == 2
	}
	for steps := w.told; steps < w.back; steps++ {
		if flags == 0 || flags == 2 && off%32768 == w.slot(steps) && (off >= 32768) == w.wrap(steps) {
			return true
		}
	}
	return false
}

// bench is a queue on a memory, beside its model. Each call is held against
// it: the results, the accesses, and all bytes.
type bench struct {
	t *testing.T
	m *gmem.Memory
	q *devq.Queue
	w model
}

// lay is a layout in which nothing is at the memory's beginning.
func lay(size int) api.Lay { return api.Lay{Ring: 64, Size: size, Drv: 16, Dev: 24} }

// free is where the bytes begin that the layout does not take.
func free(size int) int { return 64 + 16*size }

func newMemory(t *testing.T, size int) *gmem.Memory {
	t.Helper()
	m, e := gmem.New(size)
	if e != api.OK {
		t.Fatalf("gmem.New(%d): %d", size, e)
	}
	return m
}

func begun(t *testing.T, memory int, l api.Lay) *bench {
	t.Helper()
	m := newMemory(t, memory)
	return over(t, m, l)
}

// over is a queue of this layout on m.
func over(t *testing.T, m *gmem.Memory, l api.Lay) *bench {
	t.Helper()
	q, e := devq.New(m, l)
	if e != api.OK || q == nil {
		t.Fatalf("New(%v) on %d bytes: %v, %d", l, m.Size(), q, e)
	}
	m.Log()
	return &bench{t: t, m: m, q: q, w: model{l: l}}
}

// started is a queue on 4096 bytes behind its ring, of which this many slots
// were taken and all but out returned.
func started(t *testing.T, size, taken, out int) *bench {
	t.Helper()
	b := begun(t, free(size)+4096, lay(size))
	for range taken {
		if b.w.out > out || b.w.out == size {
			b.done(0, 1, 0)
		}
		b.post(api.Desc{Addr: 8, Len: 1})
		b.next()
	}
	for b.w.out > out {
		b.done(0, 1, 0)
	}
	if b.w.out != out || b.q.Out() != out {
		t.Fatalf("OUT is %d, want %d", b.q.Out(), out)
	}
	return b
}

// put writes a descriptor as a driver does, beside the device's accesses.
func (b *bench) put(at int, d api.Desc) {
	b.t.Helper()
	b.write(at, encoding(d))
}

func (b *bench) write(at int, s string) {
	b.t.Helper()
	if e := b.m.Write(at, s); e != api.OK {
		b.t.Fatalf("Write(%d, %d bytes): %d", at, len(s), e)
	}
	b.m.Log()
}

// post writes descriptors to the slots from NEXT on, in one chain; the first
// one is available.
func (b *bench) post(l ...api.Desc) {
	b.t.Helper()
	for i, d := range l {
		if i < len(l)-1 {
			d.Flags |= nextBit
		}
		if i == 0 {
			d.Flags |= bits(b.w.wrap(b.w.next), false)
		}
		b.put(b.w.offset(b.w.next+i), d)
	}
}

// accesses are those since the previous call; all of them are within the
// memory, and they are not too many.
func (b *bench) accesses(call string) []api.Access {
	b.t.Helper()
	l := b.m.Log()
	if len(l) > maxAccesses {
		b.t.Errorf("%s: %d accesses", call, len(l))
	}
	for _, a := range l {
		if a.At < 0 || a.N < 1 || a.At+a.N > b.m.Size() {
			b.t.Errorf("%s: access %v", call, a)
		}
	}
	return l
}

// reads are the accesses that read so many bytes at these offsets.
func reads(n int, ats []int) []api.Access {
	var l []api.Access
	for _, at := range ats {
		l = append(l, api.Access{At: at, N: n})
	}
	return l
}

// state checks what can be seen of the queue without an access.
func (b *bench) state(call string) {
	b.t.Helper()
	if b.q.Out() != b.w.out || b.q.Broken() != b.w.broken {
		b.t.Errorf("%s: Out %d, Broken %v, want %d and %v", call, b.q.Out(), b.q.Broken(), b.w.out, b.w.broken)
	}
	if l := b.m.Log(); len(l) > 0 {
		b.t.Errorf("%s: Out and Broken make %d accesses", call, len(l))
	}
}

// unwritten checks that a call wrote nothing.
func (b *bench) unwritten(call, before string, l []api.Access) {
	b.t.Helper()
	for _, a := range l {
		if a.Write {
			b.t.Errorf("%s: writes, %v", call, a)
		}
	}
	if b.m.Image() != before {
		b.t.Errorf("%s: other bytes", call)
	}
}

// next calls Next, holds it against the model, and returns its results.
func (b *bench) next() (api.Chain, bool, api.Errno) {
	b.t.Helper()
	image := b.m.Image()
	b.m.Log()
	c, is, e := b.q.Next()
	call := fmt.Sprintf("Next of %+v", b.w)
	l := b.accesses(call)
	b.unwritten(call, image, l)
	if b.w.broken {
		b.checkNext(call, c, is, e, api.Chain{}, false, api.ErrDevBroken)
		b.checkNoAccess(call, l)
		return c, is, e
	}
	want, offers, bad, ring, table := b.w.offered(image)
	if bad {
		b.w.broken = true
		b.checkNext(call, c, is, e, api.Chain{}, false, api.ErrDevBroken)
		b.checkBadReads(call, l, reads(16, ring))
	} else {
		b.checkNext(call, c, is, e, want, offers, api.OK)
		if all := append(reads(16, ring), reads(16, table)...); !slices.Equal(l, all) {
			b.t.Errorf("%s: accesses %v, want %v", call, l, all)
		}
		b.w.next += want.Count
		b.w.out += want.Count
	}
	b.state(call)
	return c, is, e
}

// checkBadReads checks that of the ring no more was read than the chain has.
// How far it was read ahead of the fault's detection is not stated.
func (b *bench) checkBadReads(call string, l, ring []api.Access) {
	b.t.Helper()
	for i, a := range l {
		if a.N != 16 {
			b.t.Errorf("%s: a descriptor in parts, %v", call, a)
		}
		if i < len(ring) && a != ring[i] {
			b.t.Errorf("%s: access %v, want %v", call, a, ring[i])
		}
	}
	if len(ring) > 1 && len(l) > len(ring) {
		b.t.Errorf("%s: %d accesses, want %d at most", call, len(l), len(ring))
	}
}

func (b *bench) checkNoAccess(call string, l []api.Access) {
	b.t.Helper()
	if len(l) != 0 {
		b.t.Errorf("%s: accesses %v", call, l)
	}
}

func (b *bench) checkNext(call string, c api.Chain, is bool, e api.Errno, want api.Chain, offers bool, wantErr api.Errno) {
	b.t.Helper()
	if c.Id != want.Id || c.Count != want.Count || !slices.Equal(c.Parts, want.Parts) || is != offers || e != wantErr {
		b.t.Errorf("%s: %v, %v, %d, want %v, %v, %d", call, c, is, e, want, offers, wantErr)
	}
}

// nextIs calls Next, which takes this chain.
func (b *bench) nextIs(id, count int, parts ...api.Part) {
	b.t.Helper()
	c, is, e := b.next()
	b.checkNext("Next", c, is, e, api.Chain{Id: id, Count: count, Parts: parts}, true, api.OK)
}

// nextIsNone calls Next, which takes nothing.
func (b *bench) nextIsNone() {
	b.t.Helper()
	c, is, e := b.next()
	b.checkNext("Next", c, is, e, api.Chain{}, false, api.OK)
}

// nextBreaks calls Next, which finds a malformed chain.
func (b *bench) nextBreaks(what string) {
	b.t.Helper()
	out := b.q.Out()
	c, is, e := b.next()
	b.checkNext(what, c, is, e, api.Chain{}, false, api.ErrDevBroken)
	if !b.q.Broken() || b.q.Out() != out {
		b.t.Errorf("%s: Broken %v, Out %d, want %d", what, b.q.Broken(), b.q.Out(), out)
	}
}

// done calls Done and holds it against the model.
func (b *bench) done(id, count, written int) api.Errno {
	b.t.Helper()
	image := b.m.Image()
	b.m.Log()
	e := b.q.Done(id, count, written)
	call := fmt.Sprintf("Done(%d, %d, %d) of %+v", id, count, written, b.w)
	l := b.accesses(call)
	want := api.OK
	if b.w.broken {
		want = api.ErrDevBroken
	} else if id < 0 || id > 65535 || count < 1 || count > b.w.out || written < 0 || written > 4294967295 {
		want = api.ErrArg
	}
	if e != want {
		b.t.Errorf("%s: %d, want %d", call, e, want)
	}
	if want != api.OK {
		b.unwritten(call, image, l)
		b.checkNoAccess(call, l)
		b.state(call)
		return e
	}
	b.checkReturned(call, image, l, id, written)
	b.w.back += count
	b.w.out -= count
	b.state(call)
	return e
}

// checkReturned checks what Done writes: the last eight bytes of the descriptor
// at BACK, of which the flags come last.
func (b *bench) checkReturned(call, image string, l []api.Access, id, written int) {
	b.t.Helper()
	at, flags := b.w.offset(b.w.back), bits(b.w.wrap(b.w.back), true)
	if written > 0 {
		flags += writeBit
	}
	d := decoding(image[at : at+16])
	d.Len, d.Id, d.Flags = uint32(written), id, flags
	if b.m.Image() != image[:at]+encoding(d)+image[at+16:] {
		got, _ := b.m.Read(at, 16)
		b.t.Errorf("%s: at %d %x, want %x, or others are not as before", call, at, got, encoding(d))
		b.m.Log()
	}
	flagsWritten := false
	for _, a := range l {
		if !a.Write {
			continue
		}
		if a.At < at+8 || a.At+a.N > at+16 {
			b.t.Errorf("%s: writes %v, descriptor at %d", call, a, at)
		}
		if flagsWritten && a.At < at+14 || a.At < at+14 && a.At+a.N > at+14 {
			b.t.Errorf("%s: flags are not the last, %v", call, l)
		}
		flagsWritten = flagsWritten || a.At+a.N > at+14
	}
	if !flagsWritten {
		b.t.Errorf("%s: flags are not written, %v", call, l)
	}
}

// tell calls Tell and holds it against the model.
func (b *bench) tell() bool {
	b.t.Helper()
	image := b.m.Image()
	b.m.Log()
	got := b.q.Tell()
	call := fmt.Sprintf("Tell of %+v, event %x", b.w, image[b.w.l.Drv:b.w.l.Drv+4])
	l := b.accesses(call)
	b.unwritten(call, image, l)
	want := !b.w.broken && b.w.need(image)
	if got != want {
		b.t.Errorf("%s: %v", call, got)
	}
	if b.w.broken {
		b.checkNoAccess(call, l)
	} else {
		b.w.told = b.w.back
	}
	b.state(call)
	return got
}

// tellIs calls Tell, which returns this.
func (b *bench) tellIs(want bool) {
	b.t.Helper()
	if got := b.tell(); got != want {
		b.t.Errorf("Tell: %v", got)
	}
}

// ask calls Ask and holds it against the model.
func (b *bench) ask(ev api.Event) api.Errno {
	b.t.Helper()
	image := b.m.Image()
	b.m.Log()
	e := b.q.Ask(ev)
	call := fmt.Sprintf("Ask(%v) of %+v", ev, b.w)
	l := b.accesses(call)
	want := api.OK
	if b.w.broken {
		want = api.ErrDevBroken
	} else if ev.Off < 0 || ev.Off > 32767 || ev.Flags < 0 || ev.Flags > 65535 {
		want = api.ErrArg
	}
	if e != want {
		b.t.Errorf("%s: %d, want %d", call, e, want)
	}
	b.state(call)
	if want != api.OK {
		b.unwritten(call, image, l)
		b.checkNoAccess(call, l)
		return e
	}
	dev := b.w.l.Dev
	if b.m.Image() != image[:dev]+eventBytes(ev)+image[dev+4:] {
		b.t.Errorf("%s: other bytes", call)
	}
	if !slices.Equal(l, []api.Access{{At: dev, N: 4, Write: true}}) {
		b.t.Errorf("%s: accesses %v", call, l)
	}
	return e
}

// event writes the driver's event.
func (b *bench) event(e api.Event) {
	b.t.Helper()
	b.write(b.w.l.Drv, eventBytes(e))
}

// give takes and returns so many chains of one slot.
func (b *bench) give(n int) {
	b.t.Helper()
	for range n {
		b.post(api.Desc{Addr: 8, Len: 1})
		b.next()
		b.done(0, 1, 0)
	}
}

// fail breaks the queue by Fail.
func (b *bench) fail() {
	b.t.Helper()
	b.q.Fail()
	b.w.broken = true
	b.state("Fail")
}

// P14.1

// mayLie is what Check is held against: no sum of great numbers overflows.
func mayLie(memory int, l api.Lay) bool {
	if l.Size < 1 || l.Size > 32768 {
		return false
	}
	within := func(at, n, unit int) bool {
		end := new(big.Int).Add(big.NewInt(int64(at)), big.NewInt(int64(n)))
		return at >= 0 && at%unit == 0 && end.Cmp(big.NewInt(int64(memory))) <= 0
	}
	return within(l.Ring, 16*l.Size, 16) && within(l.Drv, 4, 4) && within(l.Dev, 4, 4)
}

// checkLay holds Check and New against a layout's validity, with no access.
func checkLay(t *testing.T, m *gmem.Memory, l api.Lay, valid bool) {
	t.Helper()
	want := api.OK
	if !valid {
		want = api.ErrDevForm
	}
	if e := devq.Check(m, l); e != want {
		t.Errorf("Check(%v) on %d bytes: %d, want %d", l, m.Size(), e, want)
	}
	q, e := devq.New(m, l)
	if e != want || (q != nil) != valid {
		t.Errorf("New(%v) on %d bytes: %v, %d, want %d", l, m.Size(), q, e, want)
	}
	if log := m.Log(); len(log) > 0 {
		t.Errorf("%v on %d bytes: accesses %v", l, m.Size(), log)
	}
}

func TestCheckSizes(t *testing.T) {
	m := newMemory(t, 1<<20)
	for _, x := range []struct {
		size  int
		valid bool
	}{{-1, false}, {0, false}, {1, true}, {2, true}, {3, true}, {32767, true}, {32768, true}, {32769, false}, {65535, false}, {65536, false}, {65537, false}, {-32768, false}} {
		checkLay(t, m, api.Lay{Ring: 16, Size: x.size, Drv: 0, Dev: 4}, x.valid)
		checkLay(t, m, api.Lay{Ring: 0, Size: x.size, Drv: 1<<20 - 8, Dev: 1<<20 - 4}, x.valid)
	}
	// Numbers whose product with 16 is small where it overflows.
	for _, size := range append(ends(), 1<<60, 1<<60+1, 1<<61+1, 1<<32, 1<<28+1, 1<<28) {
		checkLay(t, m, api.Lay{Ring: 16, Size: size, Dev: 4}, false)
	}
}

func TestCheckRing(t *testing.T) {
	m := newMemory(t, 1024)
	for _, x := range []struct {
		ring, size int
		valid      bool
	}{
		{0, 64, true}, {0, 65, false}, {16, 63, true}, {16, 64, false},
		{1008, 1, true}, {1024, 1, false}, {992, 2, true}, {1008, 2, false},
		{1040, 1, false}, {1 << 20, 1, false}, {8, 1, false}, {1, 1, false},
		{15, 1, false}, {17, 1, false}, {4, 1, false}, {24, 1, false},
		{-16, 1, false}, {-16, 2, false}, {-8, 1, false}, {-1024, 64, false},
		{1016, 1, false}, {1009, 1, false}, {1007, 1, false},
	} {
		checkLay(t, m, api.Lay{Ring: x.ring, Size: x.size, Drv: 0, Dev: 4}, x.valid)
	}
	for _, ring := range ends() {
		checkLay(t, m, api.Lay{Ring: ring, Size: 1, Dev: 4}, false)
		checkLay(t, m, api.Lay{Ring: ring, Size: 64, Dev: 4}, false)
	}
}

func TestCheckEvents(t *testing.T) {
	m := newMemory(t, 1024)
	wrong := append(ends(), 1, 2, 3, 5, 6, 7, 1018, 1019, 1021, 1022, 1023, 1024, 1025, 1028, 2048, -8, -1020, -1024)
	for _, right := range []int{0, 4, 8, 16, 20, 512, 1016, 1020} {
		checkLay(t, m, api.Lay{Ring: 32, Size: 4, Drv: right, Dev: 8}, true)
		checkLay(t, m, api.Lay{Ring: 32, Size: 4, Drv: 8, Dev: right}, true)
		for _, at := range wrong {
			checkLay(t, m, api.Lay{Ring: 32, Size: 4, Drv: at, Dev: right}, false)
			checkLay(t, m, api.Lay{Ring: 32, Size: 4, Drv: right, Dev: at}, false)
			checkLay(t, m, api.Lay{Ring: 32, Size: 4, Drv: at, Dev: at}, false)
		}
	}
}

// The parts of a layout may lie over each other.
func TestCheckOverlaps(t *testing.T) {
	m := newMemory(t, 64)
	checkLay(t, m, api.Lay{Ring: 0, Size: 4, Drv: 0, Dev: 0}, true)
	checkLay(t, m, api.Lay{Ring: 16, Size: 3, Drv: 60, Dev: 60}, true)
	checkLay(t, m, api.Lay{Ring: 0, Size: 1, Drv: 12, Dev: 8}, true)
}

// Several numbers together, right and wrong ones, in memories of several sizes.
func TestCheckTogether(t *testing.T) {
	for _, memory := range []int{64, 65, 79, 80, 1024, 1030} {
		m := newMemory(t, memory)
		rings := []int{math.MinInt, -16, 0, 8, 16, 48, 64, memory - 16, memory - 31, memory, math.MaxInt - 15}
		places := []int{math.MinInt, -4, 0, 2, 60, memory - 5, memory - 4, memory - 3, memory - memory%4 - 4, memory, math.MaxInt - 3}
		for _, size := range []int{math.MinInt, -1, 0, 1, 2, 4, 5, 64, 65, 32768, 32769, 1 << 60, math.MaxInt} {
			for _, ring := range rings {
				for _, drv := range places {
					for _, dev := range places {
						l := api.Lay{Ring: ring, Size: size, Drv: drv, Dev: dev}
						checkLay(t, m, l, mayLie(memory, l))
					}
				}
			}
		}
	}
}

// Nothing is written, whatever the memory contains, and a queue begins at slot
// 0 with Wrap true and nothing taken.
func TestNewWritesNothing(t *testing.T) {
	r := &numbers{1}
	m := newMemory(t, 1024)
	m.Write(0, r.bytes(1024))
	image := m.Image()
	m.Log()
	checkLay(t, m, lay(4), true)
	checkLay(t, m, lay(65), false)
	if m.Image() != image {
		t.Error("other bytes")
	}
	b := over(t, m, lay(4))
	b.state("New")
	if b.q.Out() != 0 || b.q.Broken() {
		t.Errorf("Out %d, Broken %v", b.q.Out(), b.q.Broken())
	}
}

// Two queues of one memory have nothing in common but its bytes.
func TestTwoQueuesOfOneMemory(t *testing.T) {
	m := newMemory(t, 1024)
	a := over(t, m, api.Lay{Ring: 0, Size: 2, Drv: 512, Dev: 516})
	b := over(t, m, api.Lay{Ring: 32, Size: 2, Drv: 520, Dev: 524})
	a.post(api.Desc{Addr: 600, Len: 1, Id: 1})
	b.nextIsNone()
	b.post(api.Desc{Addr: 700, Len: 2, Id: 2})
	b.nextIs(2, 1, api.Part{At: 700, N: 2})
	a.nextIs(1, 1, api.Part{At: 600, N: 1})
	a.fail()
	b.done(2, 1, 0)
	b.state("the other one")
}

// P14.2

func TestNextExample(t *testing.T) {
	b := begun(t, 1024, api.Lay{Ring: 0, Size: 4, Drv: 512, Dev: 516})
	b.put(0, api.Desc{Addr: 128, Len: 5, Id: 7, Flags: 128})
	b.nextIs(7, 1, api.Part{At: 128, N: 5})
	if b.q.Out() != 1 {
		t.Errorf("Out %d", b.q.Out())
	}
	if e := b.done(7, 1, 0); e != api.OK {
		t.Errorf("Done: %d", e)
	}
	if flags, _ := b.m.Load(14, 2); flags != 32896 {
		t.Errorf("Flags %d", flags)
	}
	if addr, _ := b.m.Load(0, 8); addr != 128 {
		t.Errorf("Addr %d", addr)
	}
}

// A memory of zeros offers nothing, though its descriptors name no bytes.
func TestNextOfZeros(t *testing.T) {
	for _, size := range []int{1, 2, 3, 64, 1000} {
		b := started(t, size, 0, 0)
		b.nextIsNone()
		b.nextIsNone()
	}
}

// The descriptor at NEXT in all states of both bits, for both settings of Wrap
// and with all other bits.
func TestNextAvailable(t *testing.T) {
	for _, size := range []int{1, 2, 3, 5} {
		for taken := range 4*size + 1 {
			for _, others := range []int{0, writeBit, 0x7f78, 0x7f7a} {
				b := started(t, size, taken, 0)
				at, wrap := b.w.offset(taken), taken/size%2 == 0
				for _, state := range []int{0, availBit, usedBit, availBit + usedBit} {
					if wrap != (state == availBit) || wrap == (state == usedBit) {
						b.put(at, api.Desc{Addr: 8, Len: 3, Id: 9, Flags: others + state})
						b.nextIsNone()
					}
				}
				// Neither is a malformed one taken, unless it is available.
				b.put(at, api.Desc{Flags: nextBit + indirectBit + bits(wrap, true)})
				b.nextIsNone()
				b.put(at, api.Desc{Flags: nextBit + indirectBit + bits(!wrap, false)})
				b.nextIsNone()
				b.put(at, api.Desc{Addr: 8, Len: 3, Id: 9, Flags: others + bits(wrap, false)})
				b.nextIs(9, 1, api.Part{At: 8, N: 3, Write: others&writeBit != 0})
			}
		}
	}
}

// What is available elsewhere in the ring is not at NEXT.
func TestNextOnlyAtNext(t *testing.T) {
	b := started(t, 4, 1, 0)
	for _, slot := range []int{0, 2, 3} {
		b.put(64+16*slot, api.Desc{Addr: 8, Len: 3, Flags: availBit})
	}
	b.nextIsNone()
	b.put(64+16, api.Desc{Addr: 8, Len: 3, Id: 1, Flags: availBit})
	b.nextIs(1, 1, api.Part{At: 8, N: 3})
	b.nextIs(0, 1, api.Part{At: 8, N: 3})
	b.nextIs(0, 1, api.Part{At: 8, N: 3})
	b.nextIsNone() // slot 0 is available for Wrap true, and NEXT has false
}

// With all slots taken there is nothing, whatever the descriptor at NEXT.
func TestNextAllTaken(t *testing.T) {
	for _, size := range []int{1, 2, 3, 64, 65} {
		for _, taken := range []int{size, size + 1, 2*size - 1, 2 * size} {
			b := started(t, size, taken, size)
			b.post(api.Desc{Addr: 8, Len: 3, Id: 9})
			b.nextIsNone()
			b.post(api.Desc{Flags: nextBit + indirectBit})
			b.nextIsNone()
			if b.q.Broken() {
				t.Errorf("size %d: broken", size)
			}
			b.post(api.Desc{Addr: 8, Len: 3, Id: 9})
			b.done(0, 1, 0)
			if b.w.slot(b.w.back-1) != b.w.slot(b.w.next) {
				t.Fatal("the slot that was returned is not the next one")
			}
			// Done marked the slot at NEXT, in which the next chain was.
			b.nextIsNone()
			b.post(api.Desc{Addr: 8, Len: 3, Id: 9})
			b.nextIs(9, 1, api.Part{At: 8, N: 3})
		}
	}
}

// manyParts are descriptors of parts, of which each differs, and so many of the
// last ones are writable.
func manyParts(n, writable int) []api.Desc {
	l := make([]api.Desc, n)
	for i := range l {
		l[i] = api.Desc{Addr: uint64(8 + 3*i), Len: uint32(1 + i), Id: 1000 + i}
		if i >= n-writable {
			l[i].Flags = writeBit
		}
	}
	return l
}

// partsOf are those that the descriptors name.
func partsOf(l []api.Desc) []api.Part {
	var parts []api.Part
	for _, d := range l {
		parts = append(parts, api.Part{At: int(d.Addr), N: int(d.Len), Write: d.Flags&2 != 0})
	}
	return parts
}

// Chains of all lengths from each slot on, with and without slots that are
// taken: those of at most Size - OUT and 64 descriptors are taken, and the
// others break the queue.
func TestNextLengths(t *testing.T) {
	for _, size := range []int{1, 2, 3, 4, 7} {
		for taken := range 2 * size {
			for out := 0; out < size && out <= taken; out++ {
				for n := 1; n <= size+1; n++ {
					b := started(t, size, taken, out)
					b.checkLength(n, min(n, 2))
				}
			}
		}
	}
}

// checkLength posts and takes a chain of n descriptors. In a ring of fewer the
// last ones, if there are several turns, are over the first ones.
func (b *bench) checkLength(n, writable int) {
	b.t.Helper()
	l := manyParts(n, writable)
	room := min(b.w.l.Size-b.w.out, 64)
	for i := range n {
		d := l[i]
		if i < n-1 {
			d.Flags |= nextBit
		}
		if i == 0 {
			d.Flags |= bits(b.w.wrap(b.w.next), false)
		}
		if i < b.w.l.Size { // no chain has more, so this is as good as one
			b.put(b.w.offset(b.w.next+i), d)
		}
	}
	before := b.w.out
	if n > room {
		b.nextBreaks(fmt.Sprintf("%d descriptors with room for %d", n, room))
		return
	}
	b.nextIs(1000+n-1, n, partsOf(l)...)
	if b.q.Out() != before+n {
		b.t.Errorf("Out %d, want %d", b.q.Out(), before+n)
	}
	b.post(api.Desc{Addr: 16, Len: 2, Id: 5})
	if b.w.out == b.w.l.Size {
		b.nextIsNone()
		return
	}
	b.nextIs(5, 1, api.Part{At: 16, N: 2})
}

// Of 64 descriptors a chain may be, of 65 not, also over the ring's last slot
// and where the slots that are left are just as many.
func TestNextLongest(t *testing.T) {
	for _, x := range []struct{ size, taken, out, n int }{
		{64, 0, 0, 63}, {64, 0, 0, 64}, {64, 0, 0, 65}, {64, 30, 0, 64}, {64, 63, 0, 64}, {64, 64, 0, 64},
		{64, 1, 1, 63}, {64, 1, 1, 64}, {64, 70, 60, 4}, {64, 70, 60, 5}, {64, 64, 63, 1}, {64, 64, 63, 2},
		{65, 0, 0, 64}, {65, 0, 0, 65}, {65, 0, 0, 66}, {65, 40, 1, 64}, {65, 40, 1, 65}, {65, 40, 2, 63}, {65, 40, 2, 64},
		{128, 0, 0, 64}, {128, 0, 0, 65}, {128, 100, 0, 64}, {128, 100, 0, 65}, {128, 100, 64, 64}, {128, 100, 64, 65}, {128, 100, 65, 63}, {128, 100, 65, 64},
		{200, 0, 0, 64}, {200, 0, 0, 65}, {200, 0, 0, 200}, {200, 350, 100, 64}, {200, 350, 100, 65},
	} {
		b := started(t, x.size, x.taken, x.out)
		b.checkLength(x.n, x.n/2)
	}
}

// A ring in which each descriptor is followed by another one.
func TestNextEndless(t *testing.T) {
	for _, size := range []int{1, 2, 3, 63, 64, 65, 500} {
		b := started(t, size, 0, 0)
		for i := range size {
			b.put(64+16*i, api.Desc{Addr: 8, Len: 1, Flags: nextBit + availBit})
		}
		b.nextBreaks(fmt.Sprintf("size %d, endless", size))
	}
}

// Only the first descriptor's flags state that the chain is available, and only
// the last one's Id is the chain's.
func TestNextLaterFlags(t *testing.T) {
	for _, state := range []int{0, availBit, usedBit, availBit + usedBit} {
		for _, others := range []int{0, 0x7f78} {
			b := started(t, 4, 2, 0) // from slot 2 over the last one
			b.put(b.w.offset(2), api.Desc{Addr: 8, Len: 1, Id: 1, Flags: nextBit + availBit})
			b.put(b.w.offset(3), api.Desc{Addr: 10, Len: 2, Id: 2, Flags: nextBit + state + others})
			b.put(b.w.offset(4), api.Desc{Addr: 20, Len: 3, Id: 65535, Flags: writeBit + state + others})
			b.nextIs(65535, 3, api.Part{At: 8, N: 1}, api.Part{At: 10, N: 2}, api.Part{At: 20, N: 3, Write: true})
		}
	}
}

// Later descriptors are read only where their predecessors have DescNext, each
// in one access, in order (next holds all accesses against these).
func TestNextReads(t *testing.T) {
	b := started(t, 4, 3, 0)
	b.post(api.Desc{Addr: 8, Len: 1}, api.Desc{Addr: 9, Len: 1})
	b.m.Log()
	if _, is, e := b.q.Next(); !is || e != api.OK {
		t.Fatalf("Next: %v, %d", is, e)
	}
	if l := b.m.Log(); !slices.Equal(l, []api.Access{{At: 64 + 48, N: 16}, {At: 64, N: 16}}) {
		t.Errorf("accesses %v", l)
	}
	b = started(t, 4, 3, 0)
	b.post(api.Desc{Addr: 8, Len: 1, Flags: nextBit}, api.Desc{Addr: 9, Len: 1, Flags: nextBit}, api.Desc{Addr: 9, Len: 1, Flags: nextBit}, api.Desc{Addr: 9, Len: 1, Flags: nextBit})
	b.nextBreaks("more than the ring has")
	b = started(t, 4, 0, 0)
	b.put(64, api.Desc{Addr: 8, Len: 1, Flags: usedBit})
	b.m.Log()
	b.q.Next()
	if l := b.m.Log(); !slices.Equal(l, []api.Access{{At: 64, N: 16}}) {
		t.Errorf("accesses %v", l)
	}
}

// tableOf writes descriptors to a table at an offset.
func (b *bench) tableOf(at int, l []api.Desc) {
	b.t.Helper()
	for i, d := range l {
		b.put(at+16*i, d)
	}
}

// DescIndirect in chains of several: at the first, at a later one, at the last
// one, and at all of them.
func TestNextIndirectAmongSeveral(t *testing.T) {
	for n := 2; n <= 5; n++ {
		for which := range n + 1 {
			b := started(t, 8, 5, 0)
			b.tableOf(free(8), []api.Desc{{Addr: 8, Len: 1}})
			l := make([]api.Desc, n)
			for i := range l {
				l[i] = api.Desc{Addr: uint64(free(8)), Len: 16, Id: i}
				if i == which || which == n {
					l[i].Flags = indirectBit
				}
			}
			b.post(l...)
			b.nextBreaks(fmt.Sprintf("%d descriptors, DescIndirect at %d", n, which))
		}
	}
	// The same without DescIndirect is none of these.
	b := started(t, 8, 5, 0)
	b.post(api.Desc{Addr: 8, Len: 16}, api.Desc{Addr: 8, Len: 16, Id: 3})
	b.nextIs(3, 2, api.Part{At: 8, N: 16}, api.Part{At: 8, N: 16})
}

// In a ring of one slot DescNext has no second descriptor to lead to.
func TestNextIndirectAndNext(t *testing.T) {
	for _, size := range []int{1, 2, 4} {
		b := started(t, size, 0, 0)
		b.tableOf(free(size), []api.Desc{{Addr: 8, Len: 1}})
		b.post(api.Desc{Addr: uint64(free(size)), Len: 16, Flags: indirectBit + nextBit})
		b.nextBreaks("DescIndirect with DescNext")
	}
}

// Tables of all numbers of descriptors; one slot of the ring is taken, and the
// Id is that of its descriptor.
func TestNextTables(t *testing.T) {
	for _, size := range []int{1, 2, 4} {
		for n := 1; n <= 64; n++ {
			for _, writable := range []int{0, 1, n / 2, n} {
				b := started(t, size, size-1, 0)
				l := manyParts(n, writable)
				b.tableOf(free(size), l)
				// DescWrite of the descriptor in the ring is of no part.
				for _, flags := range []int{indirectBit, indirectBit + writeBit} {
					b.post(api.Desc{Addr: uint64(free(size)), Len: uint32(16 * n), Id: 77, Flags: flags})
					b.nextIs(77, 1, partsOf(l)...)
					b.done(77, 1, 0)
				}
			}
		}
	}
}

func TestNextTableLengths(t *testing.T) {
	for n, valid := range map[uint32]bool{
		0: false, 1: false, 8: false, 15: false, 16: true, 17: false, 31: false, 32: true, 33: false,
		1007: false, 1008: true, 1009: false, 1023: false, 1024: true, 1025: false, 1039: false, 1040: false, 2048: false,
		1<<32 - 1: false, 1<<32 - 16: false, 1 << 31: false, 1<<31 + 16: false, 1<<16 + 16: false,
	} {
		b := started(t, 4, 1, 0)
		l := manyParts(128, 1)
		b.tableOf(free(4), l)
		b.post(api.Desc{Addr: uint64(free(4)), Len: n, Id: 3, Flags: indirectBit})
		if valid {
			b.nextIs(3, 1, partsOf(l[:n/16])...)
		} else {
			b.nextBreaks(fmt.Sprintf("a table of %d bytes", n))
		}
	}
}

// Tables at the memory's end, across it and behind it, at any offset.
func TestNextTablePlaces(t *testing.T) {
	size := uint64(free(4) + 4096)
	for _, x := range []struct {
		addr  uint64
		n     uint32
		valid bool
	}{
		{size - 16, 16, true}, {size - 15, 16, false}, {size - 1, 16, false}, {size, 16, false}, {size + 1, 16, false},
		{size - 32, 32, true}, {size - 16, 32, false}, {size - 31, 32, false},
		{size - 1024, 1024, true}, {size - 1023, 1024, false}, {size - 1008, 1024, false},
		{size - 17, 16, true}, {size - 47, 32, true}, {size - 1029, 1024, true},
		{1 << 20, 16, false}, {1 << 32, 16, false}, {1<<32 + size - 16, 16, false}, {1<<63 - 16, 16, false}, {1<<63 - 1, 16, false},
		{1 << 63, 16, false}, {1<<63 + size - 16, 16, false}, {1<<64 - 16, 16, false}, {1<<64 - 15, 16, false}, {1<<64 - 1, 16, false},
		{1<<64 - 1024, 1024, false}, {1<<64 - 8, 1024, false}, {1 << 63, 0, false}, {1<<64 - 1, 1<<32 - 1, false},
	} {
		b := started(t, 4, 1, 0)
		l := manyParts(int(x.n)/16%65, 1)
		if x.valid {
			b.tableOf(int(x.addr), l)
		}
		b.post(api.Desc{Addr: x.addr, Len: x.n, Id: 3, Flags: indirectBit})
		if x.valid {
			b.nextIs(3, 1, partsOf(l)...)
		} else {
			b.nextBreaks(fmt.Sprintf("a table of %d bytes at %d", x.n, x.addr))
		}
	}
}

// DescNext, Id, DescAvail and DescUsed in a table make no difference, in any
// place; DescIndirect breaks the queue in each.
func TestNextTableFlags(t *testing.T) {
	for n := 1; n <= 4; n++ {
		for which := range n {
			for _, flags := range []int{0, nextBit, availBit, usedBit, availBit + usedBit, nextBit + availBit, nextBit + usedBit, nextBit + availBit + usedBit, 0x7f78, 0xfffb, 0xfff9} {
				for _, indirect := range []int{0, indirectBit} {
					b := started(t, 2, 1, 0)
					l := manyParts(n, 0)
					for i := which + 1; i < n; i++ {
						l[i].Flags = writeBit
					}
					l[which].Flags = flags + indirect
					l[which].Id = 65535
					b.tableOf(free(2), l)
					b.post(api.Desc{Addr: uint64(free(2)), Len: uint32(16 * n), Id: 8, Flags: indirectBit})
					if indirect == 0 {
						b.nextIs(8, 1, partsOf(l)...)
					} else {
						b.nextBreaks("DescIndirect in a table")
					}
				}
			}
		}
	}
}

// A table may be in the ring, and refer to itself as to bytes.
func TestNextTableInRing(t *testing.T) {
	b := started(t, 4, 0, 0)
	b.put(64+16, api.Desc{Addr: 64, Len: 64, Id: 5, Flags: availBit})
	b.post(api.Desc{Addr: 64 + 16, Len: 16, Id: 9, Flags: indirectBit})
	b.nextIs(9, 1, api.Part{At: 64, N: 64})
	b.nextIs(5, 1, api.Part{At: 64, N: 64})
	b = started(t, 4, 0, 0)
	b.post(api.Desc{Addr: 64, Len: 16, Id: 9, Flags: indirectBit})
	b.nextBreaks("a table that is its own")
}

// partCase is a part that is valid or not.
type partCase struct {
	addr  uint64
	n     uint32
	valid bool
}

func partCases(memory int) []partCase {
	size := uint64(memory)
	return []partCase{
		{0, 1, true}, {0, 0, false}, {1, 0, false}, {size, 0, false}, {size - 1, 0, false}, {1 << 63, 0, false}, {1<<64 - 1, 0, false},
		{size - 1, 1, true}, {size - 1, 2, false}, {size, 1, false}, {size + 1, 1, false}, {0, uint32(size), true}, {0, uint32(size) + 1, false}, {1, uint32(size), false},
		{size - 5, 5, true}, {size - 5, 6, false}, {size - 4, 5, false}, {2 * size, 1, false},
		{1 << 32, 1, false}, {1<<32 + 8, 1, false}, {1<<63 - 1, 1, false}, {1<<63 - 1, 2, false}, {1 << 63, 1, false}, {1<<63 + 8, 1, false},
		{1<<64 - 1, 1, false}, {1<<64 - 1, 2, false}, {1<<64 - 8, 16, false}, {1<<64 - 4, 4, false}, {1<<64 - 1<<32 + 1, 1<<32 - 1, false},
		{0, 1<<32 - 1, false}, {8, 1<<32 - 1, false}, {0, 1 << 31, false}, {8, 1<<31 + 1, false}, {1<<64 - 1, 1<<32 - 1, false}, {1 << 63, 1<<32 - 1, false}, {8, 1<<20 + 1, false},
	}
}

// One part that is valid or not, at each place of a chain in the ring and in a
// table, readable and writable.
func TestNextParts(t *testing.T) {
	memory := free(8) + 4096
	for _, x := range partCases(memory) {
		for n := 1; n <= 3; n++ {
			for which := range n {
				for _, writable := range []int{0, n} {
					for _, indirect := range bools() {
						l := manyParts(n, writable)
						l[which].Addr, l[which].Len = x.addr, x.n
						b := started(t, 8, 3, 0)
						b.checkParts(l, indirect, x.valid)
					}
				}
			}
		}
	}
}

// checkParts takes a chain of these parts, or finds it malformed.
func (b *bench) checkParts(l []api.Desc, indirect, valid bool) {
	b.t.Helper()
	id, count := l[len(l)-1].Id, len(l)
	if indirect {
		at := free(b.w.l.Size)
		b.tableOf(at, l)
		id, count = 4321, 1
		b.post(api.Desc{Addr: uint64(at), Len: uint32(16 * len(l)), Id: id, Flags: indirectBit})
	} else {
		b.post(l...)
	}
	if valid {
		b.nextIs(id, count, partsOf(l)...)
	} else {
		b.nextBreaks(fmt.Sprintf("parts %v", l))
	}
}

// All orders of readable and writable parts: no readable one follows a writable
// one, at once or later.
func TestNextOrders(t *testing.T) {
	for n := 1; n <= 6; n++ {
		for order := range 1 << n {
			l, valid := manyParts(n, 0), true
			for i := range l {
				if order>>i&1 != 0 {
					l[i].Flags = writeBit
				} else if order&(1<<i-1) != 0 {
					valid = false
				}
			}
			for _, indirect := range bools() {
				started(t, 8, 6, 0).checkParts(l, indirect, valid)
			}
		}
	}
}

// One chain's writable part does not matter to the next chain.
func TestNextOrderOfChains(t *testing.T) {
	b := started(t, 4, 0, 0)
	b.post(api.Desc{Addr: 8, Len: 1, Id: 1, Flags: writeBit})
	b.nextIs(1, 1, api.Part{At: 8, N: 1, Write: true})
	b.post(api.Desc{Addr: 9, Len: 1, Id: 2})
	b.nextIs(2, 1, api.Part{At: 9, N: 1})
}

// Parts may overlap each other, the ring and the events, and be the same.
func TestNextOverlappingParts(t *testing.T) {
	b := started(t, 4, 0, 0)
	memory := uint32(free(4) + 4096)
	b.post(api.Desc{Len: memory}, api.Desc{Addr: 64, Len: 64, Flags: writeBit}, api.Desc{Addr: 64, Len: 64, Id: 1, Flags: writeBit})
	b.nextIs(1, 3, api.Part{N: int(memory)}, api.Part{At: 64, N: 64, Write: true}, api.Part{At: 64, N: 64, Write: true})
}

// The greatest ring, to its last slot and over it.
func TestNextGreatestRing(t *testing.T) {
	b := begun(t, 1<<20, api.Lay{Ring: 16, Size: 32768, Drv: 0, Dev: 4})
	for i := range 32768 - 1 {
		b.m.Write(16+16*i, encoding(api.Desc{Addr: 8, Len: 1, Flags: availBit}))
		if _, is, e := b.q.Next(); !is || e != api.OK {
			t.Fatalf("slot %d: %v, %d", i, is, e)
		}
	}
	b.w.next, b.w.out = 32767, 32767
	b.done(1, 32767, 1)
	b.post(api.Desc{Addr: 8, Len: 1, Id: 1}, api.Desc{Addr: 9, Len: 2, Id: 2})
	b.nextIs(2, 2, api.Part{At: 8, N: 1}, api.Part{At: 9, N: 2})
	b.done(2, 2, 0)
	b.post(api.Desc{Addr: 8, Len: 1, Id: 3})
	b.nextIs(3, 1, api.Part{At: 8, N: 1})
	b.done(3, 1, 0)
	b.tellIs(true)
}

// P14.3

// Each number of slots that are returned at once, from each slot on, with both
// settings of Wrap.
func TestDoneEverywhere(t *testing.T) {
	for _, size := range []int{1, 2, 3, 4, 7} {
		for taken := range 4*size + 1 {
			for out := 0; out <= size && out <= taken; out++ {
				for count := 1; count <= out; count++ {
					for _, written := range []int{0, 1} {
						b := started(t, size, taken, out)
						if e := b.done(100*count, count, written); e != api.OK {
							t.Errorf("Done of %d out of %d: %d", count, out, e)
						}
						if b.q.Out() != out-count {
							t.Errorf("Out %d, want %d", b.q.Out(), out-count)
						}
						b.done(5, out-count, 0) // ErrArg if there are none
						b.done(5, 1, 0)
					}
				}
			}
		}
	}
}

// Addr remains, whatever it is, and no other descriptor changes.
func TestDoneLeavesAddr(t *testing.T) {
	for _, written := range []int{0, 1, 1500, 65536, 1 << 31, 1<<32 - 1} {
		for _, id := range []int{0, 1, 255, 256, 65534, 65535} {
			b := started(t, 4, 2, 1)
			d := api.Desc{Addr: 0xf1e2d3c4b5a69788, Len: 0xffffffff, Id: 0xffff, Flags: 0xffff}
			for slot := range 4 {
				b.put(64+16*slot, d)
			}
			if e := b.done(id, 1, written); e != api.OK {
				t.Errorf("Done(%d, 1, %d): %d", id, written, e)
			}
			got, _ := b.m.Read(64+16, 16)
			want := api.Desc{Addr: d.Addr, Len: uint32(written), Id: id, Flags: availBit + usedBit}
			if written > 0 {
				want.Flags += writeBit
			}
			if got != encoding(want) {
				t.Errorf("Done(%d, 1, %d): %x, want %x", id, written, got, encoding(want))
			}
		}
	}
}

// The flags for both settings of Wrap, over the last slot.
func TestDoneFlags(t *testing.T) {
	b := started(t, 2, 0, 0)
	for i, x := range []struct {
		written int
		flags   uint64
	}{{0, 32896}, {7, 32898}, {0, 0}, {7, 2}, {1, 32898}, {0, 32896}, {1, 2}, {0, 0}, {0, 32896}} {
		b.post(api.Desc{Addr: 8, Len: 1})
		b.next()
		b.done(3, 1, x.written)
		if flags, _ := b.m.Load(64+16*(i%2)+14, 2); flags != x.flags {
			t.Errorf("return %d: flags %d, want %d", i, flags, x.flags)
		}
	}
}

// A chain of several slots over the last one is returned in one slot, and BACK
// passes all of them.
func TestDoneOverLastSlot(t *testing.T) {
	b := started(t, 4, 3, 0)
	b.post(api.Desc{Addr: 8, Len: 1}, api.Desc{Addr: 8, Len: 1}, api.Desc{Addr: 8, Len: 1, Id: 9})
	b.next()
	b.done(9, 3, 0)
	if flags, _ := b.m.Load(64+48+14, 2); flags != 32896 {
		t.Errorf("flags %d", flags)
	}
	b.post(api.Desc{Addr: 8, Len: 1, Id: 10})
	b.nextIs(10, 1, api.Part{At: 8, N: 1})
	b.done(10, 1, 5)
	if flags, _ := b.m.Load(64+32+14, 2); flags != 2 {
		t.Errorf("flags %d", flags)
	}
}

// Chains are returned in another order than they were taken: where they are
// returned depends on the slots alone. The device is free to name any id.
func TestDoneInOtherOrder(t *testing.T) {
	b := started(t, 8, 6, 0)
	b.post(api.Desc{Addr: 8, Len: 1}, api.Desc{Addr: 8, Len: 1, Id: 1})
	b.next()
	b.post(api.Desc{Addr: 8, Len: 1, Id: 2})
	b.next()
	b.post(api.Desc{Addr: 8, Len: 1}, api.Desc{Addr: 8, Len: 1}, api.Desc{Addr: 8, Len: 1, Id: 3})
	b.next()
	if b.q.Out() != 6 {
		t.Errorf("Out %d", b.q.Out())
	}
	for _, x := range []struct{ id, count, written, slot int }{{3, 3, 30, 6}, {1, 2, 10, 1}, {2, 1, 0, 3}} {
		if e := b.done(x.id, x.count, x.written); e != api.OK {
			t.Errorf("Done(%d): %d", x.id, e)
		}
		id, _ := b.m.Load(64+16*x.slot+12, 2)
		n, _ := b.m.Load(64+16*x.slot+8, 4)
		if int(id) != x.id || int(n) != x.written {
			t.Errorf("slot %d: id %d, %d bytes, want %d and %d", x.slot, id, n, x.id, x.written)
		}
	}
	b.done(9, 1, 0)
	b.give(10)
}

// Numbers that may not be, alone and together with others; a call that is
// rejected changes nothing, so that all calls of one queue are alike.
func TestDoneWrong(t *testing.T) {
	ids := append(ends(), 65536, 65537, 1<<16+7)
	writtens := append(ends(), 1<<32, 1<<32+1)
	writtens = slices.DeleteFunc(writtens, func(n int) bool { return 0 <= n && n < 1<<32 })
	for _, out := range []int{0, 1, 2, 3, 4} {
		b := started(t, 4, 6, out)
		counts := append(ends(), 0, out+1, 5, 8, 32768, 65536+1)
		rightCounts := []int{1, out, max(out-1, 1)}
		wrong := func(id, count, written int) {
			t.Helper()
			if e := b.done(id, count, written); e != api.ErrArg {
				t.Errorf("Done(%d, %d, %d) with OUT %d: %d", id, count, written, out, e)
			}
		}
		for _, count := range append(counts, rightCounts...) {
			for _, id := range append(ids, 0, 7, 65535) {
				for _, written := range append(writtens, 0, 1, 1<<32-1) {
					if slices.Contains(counts, count) || slices.Contains(ids, id) || slices.Contains(writtens, written) || count < 1 || count > out {
						wrong(id, count, written)
					}
				}
			}
		}
		if out > 0 {
			b.done(7, 1, 3)
		}
		b.give(9)
	}
}

func TestDoneEdges(t *testing.T) {
	for _, out := range []int{1, 2, 4} {
		for _, count := range []int{1, out} {
			for _, id := range []int{0, 65535} {
				for _, written := range []int{0, 1, 1<<32 - 1} {
					b := started(t, 4, 6, out)
					if e := b.done(id, count, written); e != api.OK {
						t.Errorf("Done(%d, %d, %d) with OUT %d: %d", id, count, written, out, e)
					}
				}
			}
		}
	}
}

// P14.4

// told is a queue at a position after so many steps, all of them told.
func told(t *testing.T, size, steps int) *bench {
	t.Helper()
	b := started(t, size, steps, 0)
	b.tell()
	return b
}

// Each number of slots to more than twice as many as the ring has, and each
// event: at each position, with both Wraps, outside of the ring, and with the
// Flags that ask for something or nothing. Tell changes what it begins with,
// so each case has a clone.
func TestTellEverywhere(t *testing.T) {
	for _, size := range []int{1, 2, 3, 4} {
		for start := range 2 * size {
			b := told(t, size, start)
			for range 2*size + 3 {
				for off := range size + 2 {
					for _, wrap := range bools() {
						for _, flags := range []int{0, 1, 2, 3, 65535} {
							c := b.clone()
							c.event(api.Event{Off: off, Wrap: wrap, Flags: flags})
							c.tell()
							c.tellIs(false)
						}
					}
				}
				b.give(1)
			}
		}
	}
}

// clone is one of both, on a clone of the memory.
func (b *bench) clone() *bench {
	m := b.m.Clone()
	return &bench{t: b.t, m: m, q: b.q.Clone(m), w: b.w}
}

// Flags 0: for each slot that was returned; nothing for none.
func TestTellOfAll(t *testing.T) {
	for _, size := range []int{1, 2, 4, 64} {
		for _, start := range []int{0, 1, size - 1, size, 2*size - 1} {
			b := told(t, size, start)
			b.event(api.Event{Off: 32767, Wrap: true})
			b.tellIs(false)
			for _, n := range []int{1, 2, size, size + 1, 2 * size, 2*size + 1, 3 * size, 4 * size, 5*size + 1} {
				b.give(n)
				b.tellIs(true)
				b.tellIs(false)
			}
		}
	}
}

// Flags 1 and those above 2: never, also for more than the ring has.
func TestTellOfNone(t *testing.T) {
	for _, flags := range []int{1, 3, 4, 5, 258, 32768, 32770, 65534, 65535} {
		for _, start := range []int{0, 3, 4, 7} {
			b := told(t, 4, start)
			for off := range 4 {
				for _, wrap := range bools() {
					b.event(api.Event{Off: off, Wrap: wrap, Flags: flags})
					for _, n := range []int{0, 1, 4, 5, 8, 9, 16, 17} {
						b.give(n)
						b.tellIs(false)
					}
				}
			}
		}
	}
}

// Flags 2: the event among the slots, just before, just behind, and with the
// other Wrap.
func TestTellOfPosition(t *testing.T) {
	for _, size := range []int{1, 2, 3, 8, 100} {
		for _, start := range []int{0, 1, size / 2, size - 1, size, 2*size - 1} {
			for _, n := range []int{1, 2, size - 1, size} {
				if n < 1 || n > size {
					continue
				}
				b := told(t, size, start)
				b.give(n)
				at := func(steps int, want bool) {
					t.Helper()
					c := b.clone()
					steps += 2 * size
					c.event(api.Event{Off: steps % size, Wrap: steps/size%2 == 0, Flags: 2})
					c.tellIs(want)
					c.tellIs(false)
				}
				at(start, true)
				at(start+n-1, true)
				at(start-1, false)
				at(start+n, false)
				at(start+size, false)
				at(start+n-1+size, false)
			}
		}
	}
}

// Flags 2 for more slots than the ring has: always, also for an event outside
// of the ring; for as many as it has, only at a position that was left.
func TestTellOfMore(t *testing.T) {
	for _, size := range []int{1, 2, 3, 8} {
		for _, off := range []int{0, size - 1, size, 1000, 32767} {
			for _, wrap := range bools() {
				b := told(t, size, 1)
				b.event(api.Event{Off: off, Wrap: wrap, Flags: 2})
				for _, n := range []int{size + 1, 2*size - 1, 2 * size, 2*size + 1, 3 * size, 4 * size, 4*size + 1, 7*size + 2} {
					b.give(n)
					b.tellIs(n > size || b.w.l.Size == 1 && off == 0 && wrap == b.w.wrap(b.w.back-1))
					b.tellIs(false)
				}
				if off >= size {
					b.give(size)
					b.tellIs(false)
				}
			}
		}
	}
}

// The next call begins where this one ended, also where it returned false, and
// whatever the event then was.
func TestTellBeginsAnew(t *testing.T) {
	b := told(t, 4, 0)
	b.event(api.Event{Off: 2, Wrap: true, Flags: 2})
	b.give(2)
	b.tellIs(false)
	b.event(api.Event{Off: 1, Wrap: true, Flags: 2})
	b.tellIs(false)
	b.event(api.Event{Off: 2, Wrap: true, Flags: 2})
	b.give(1)
	b.tellIs(true)
	b.event(api.Event{Flags: 1})
	b.give(1)
	b.tellIs(false)
	b.event(api.Event{})
	b.tellIs(false)
	b.give(3)
	b.event(api.Event{Flags: 1})
	b.tellIs(false)
	b.event(api.Event{Off: 3, Flags: 2})
	b.give(2)
	b.tellIs(true)
}

// Without an earlier call it begins at slot 0 with Wrap true. What is taken and
// not returned does not count, nor does a return that is rejected.
func TestTellFirst(t *testing.T) {
	b := started(t, 4, 0, 0)
	b.tellIs(false)
	b.post(api.Desc{Addr: 8, Len: 1})
	b.next()
	b.tellIs(false)
	b.done(0, 2, 0)
	b.done(-1, 1, 0)
	b.tellIs(false)
	b.done(0, 1, 0)
	b.tellIs(true)
	b = started(t, 4, 3, 0)
	b.event(api.Event{Off: 0, Wrap: true, Flags: 2})
	b.tellIs(true)
	b = started(t, 4, 5, 0)
	b.event(api.Event{Off: 3, Flags: 2})
	b.tellIs(true)
	b = started(t, 4, 4, 0)
	b.event(api.Event{Off: 3, Flags: 2})
	b.tellIs(false)
}

// A chain counts as many slots as it has.
func TestTellCountsSlots(t *testing.T) {
	b := told(t, 4, 2)
	b.event(api.Event{Off: 1, Wrap: true, Flags: 2})
	b.post(api.Desc{Addr: 8, Len: 1}, api.Desc{Addr: 8, Len: 1}, api.Desc{Addr: 8, Len: 1})
	b.next()
	b.done(0, 3, 0)
	b.tellIs(false)
	b.event(api.Event{Off: 2, Wrap: false, Flags: 2})
	b.post(api.Desc{Addr: 8, Len: 1}, api.Desc{Addr: 8, Len: 1}, api.Desc{Addr: 8, Len: 1})
	b.next()
	b.done(0, 3, 0)
	b.tellIs(true)
	b.event(api.Event{Off: 7, Flags: 2})
	for range 2 {
		b.post(api.Desc{Addr: 8, Len: 1}, api.Desc{Addr: 8, Len: 1}, api.Desc{Addr: 8, Len: 1})
		b.next()
		b.done(0, 3, 0)
	}
	b.tellIs(true) // 6 slots of 4
}

func TestAsk(t *testing.T) {
	for _, x := range []struct {
		e    api.Event
		want string
	}{
		{api.Event{}, "\x00\x00\x00\x00"},
		{api.Event{Wrap: true}, "\x00\x80\x00\x00"},
		{api.Event{Off: 3, Wrap: true, Flags: 2}, "\x03\x80\x02\x00"},
		{api.Event{Off: 32767, Flags: 65535}, "\xff\x7f\xff\xff"},
		{api.Event{Off: 32767, Wrap: true, Flags: 65535}, "\xff\xff\xff\xff"},
		{api.Event{Off: 0x1234, Flags: 0x5678}, "\x34\x12\x78\x56"},
	} {
		b := started(t, 4, 3, 1)
		b.write(20, "abcdefghijkl")
		if e := b.ask(x.e); e != api.OK {
			t.Errorf("Ask(%v): %d", x.e, e)
		}
		if s, _ := b.m.Read(20, 12); s != "abcd"+x.want+"ijkl" {
			t.Errorf("Ask(%v): %x", x.e, s)
		}
		b.done(0, 1, 0)
		b.tellIs(true) // by the driver's event, not by the device's
	}
}

func TestAskWrong(t *testing.T) {
	b := started(t, 4, 3, 1)
	wrongOffs := append(ends(), 32768, 32769, 65535, 65536)
	wrongFlags := append(ends(), 65536, 65537, 1<<17)
	for _, wrap := range bools() {
		for _, off := range wrongOffs {
			for _, flags := range append(wrongFlags, 0, 2, 65535) {
				if e := b.ask(api.Event{Off: off, Wrap: wrap, Flags: flags}); e != api.ErrArg {
					t.Errorf("Ask of %d, %d: %d", off, flags, e)
				}
			}
		}
		for _, flags := range wrongFlags {
			for _, off := range []int{0, 3, 32767} {
				if e := b.ask(api.Event{Off: off, Wrap: wrap, Flags: flags}); e != api.ErrArg {
					t.Errorf("Ask of %d, %d: %d", off, flags, e)
				}
			}
		}
	}
	// An event that the ring doesn't have a slot for may be asked for.
	for _, off := range []int{0, 3, 4, 32767} {
		if e := b.ask(api.Event{Off: off, Flags: 3}); e != api.OK {
			t.Errorf("Ask of %d: %d", off, e)
		}
	}
}

// P14.5

// checkBroken makes each call of a queue that is broken, with valid arguments
// and with others, and with a chain that it could take.
func (b *bench) checkBroken() {
	b.t.Helper()
	out := b.w.out
	for range 2 {
		b.post(api.Desc{Addr: 8, Len: 1})
		b.event(api.Event{})
		c, is, e := b.next()
		b.checkNext("broken", c, is, e, api.Chain{}, false, api.ErrDevBroken)
		for _, x := range [][3]int{{0, 1, 0}, {0, out, 0}, {-1, 1, 0}, {0, 0, 0}, {0, 1, -1}, {65536, out + 1, 1 << 32}} {
			if e := b.done(x[0], x[1], x[2]); e != api.ErrDevBroken {
				b.t.Errorf("broken: Done(%v): %d", x, e)
			}
		}
		b.tellIs(false)
		for _, ev := range []api.Event{{}, {Off: -1}, {Flags: 65536}, {Off: 1, Wrap: true, Flags: 2}} {
			if e := b.ask(ev); e != api.ErrDevBroken {
				b.t.Errorf("broken: Ask(%v): %d", ev, e)
			}
		}
		if !b.q.Broken() || b.q.Out() != out {
			b.t.Errorf("broken: %v, Out %d, want %d", b.q.Broken(), b.q.Out(), out)
		}
		b.fail() // a second time makes no difference
	}
}

func TestFail(t *testing.T) {
	for _, size := range []int{1, 4} {
		for out := range size + 1 {
			b := started(t, size, size, out)
			b.fail()
			b.checkBroken()
		}
	}
	b := begun(t, 1024, lay(4))
	b.fail()
	b.checkBroken()
}

// A malformed chain breaks the queue as Fail does, also if it is well-formed
// later; what was taken before remains taken.
func TestMalformedBreaks(t *testing.T) {
	for out := range 4 {
		for _, d := range []api.Desc{{}, {Addr: 1 << 63, Len: 1}, {Addr: 8, Len: 1, Flags: indirectBit}, {Addr: 1 << 40, Len: 16, Flags: indirectBit}} {
			b := started(t, 4, 4, out)
			b.post(d)
			b.nextBreaks(fmt.Sprint(d))
			b.checkBroken()
		}
	}
}

// A broken queue with all slots taken is broken too, and not merely empty.
func TestBrokenAndAllTaken(t *testing.T) {
	b := started(t, 2, 2, 2)
	b.nextIsNone()
	b.fail()
	if c, is, e := b.next(); is || e != api.ErrDevBroken || c.Count != 0 {
		t.Errorf("Next: %v, %v, %d", c, is, e)
	}
}

// A clone has the state of its original, in each of its parts.
func TestCloneState(t *testing.T) {
	for _, size := range []int{1, 2, 4} {
		for taken := range 3*size + 1 {
			for out := 0; out <= size && out <= taken; out++ {
				b := started(t, size, taken, out)
				if taken%2 == 1 {
					b.tell()
				}
				c := b.clone()
				c.state("Clone")
				b.state("its original")
				if out < size {
					c.post(api.Desc{Addr: 8, Len: 1, Id: 3})
					c.nextIs(3, 1, api.Part{At: 8, N: 1})
				}
				if c.w.out > 0 {
					c.done(1, 1, 1)
				}
				c.tell()
				c.tell()
			}
		}
	}
	b := started(t, 4, 3, 2)
	b.fail()
	c := b.clone()
	if !c.q.Broken() || c.q.Out() != 2 {
		t.Errorf("Broken %v, Out %d", c.q.Broken(), c.q.Out())
	}
	c.checkBroken()
}

// A clone and its original do not change each other, by any call, nor by the
// bytes that they write.
func TestCloneIsIndependent(t *testing.T) {
	for _, of := range []string{"clone", "original"} {
		b := started(t, 4, 5, 2)
		changed, other := b.clone(), b
		if of == "original" {
			changed, other = other, changed
		}
		image := other.m.Image()
		other.m.Log()
		changed.post(api.Desc{Addr: 8, Len: 1, Id: 3})
		changed.next()
		changed.done(9, 3, 7)
		changed.ask(api.Event{Off: 1, Wrap: true, Flags: 2})
		changed.tell()
		changed.fail()
		if other.m.Image() != image || len(other.m.Log()) > 0 {
			t.Errorf("the %s changes the other's memory", of)
		}
		other.state("the other one of the " + of)
		other.nextIsNone()
		other.post(api.Desc{Addr: 9, Len: 2, Id: 4})
		other.nextIs(4, 1, api.Part{At: 9, N: 2})
		other.tellIs(true)
		other.done(1, 3, 0)
		other.tellIs(true)
		other.give(7)
	}
}

// R4: what was handed out is the caller's: no later result changes by it, and
// no later call changes it.
func TestHandedOut(t *testing.T) {
	b := started(t, 4, 0, 0)
	l := manyParts(3, 1)
	for range 4 {
		b.post(l...)
		c, is, _ := b.next()
		if !is || !slices.Equal(c.Parts, partsOf(l)) {
			t.Fatalf("Next: %v, %v", c, is)
		}
		kept := c.Parts
		for i := range c.Parts[:cap(c.Parts)] {
			c.Parts[:cap(c.Parts)][i] = api.Part{At: -1, N: -1, Write: true}
		}
		b.done(0, 3, 0)
		b.post(api.Desc{Addr: 8, Len: 1, Id: 1})
		b.nextIs(1, 1, api.Part{At: 8, N: 1})
		b.done(1, 1, 0)
		for _, p := range kept {
			if p != (api.Part{At: -1, N: -1, Write: true}) {
				t.Errorf("later calls change a part to %v", p)
			}
		}
	}
}

// Two chains share no memory, also those of tables and of clones.
func TestChainsShareNothing(t *testing.T) {
	b := started(t, 8, 0, 0)
	b.tableOf(free(8), manyParts(5, 2))
	table := api.Desc{Addr: uint64(free(8)), Len: 80, Id: 3, Flags: indirectBit}
	b.post(table)
	c := b.clone()
	first, _, _ := b.next()
	ofClone, _, _ := c.next()
	b.post(table)
	second, _, _ := b.next()
	for i := range first.Parts[:cap(first.Parts)] {
		first.Parts[:cap(first.Parts)][i].At = -5
	}
	for _, other := range []api.Chain{second, ofClone} {
		if !slices.Equal(other.Parts, partsOf(manyParts(5, 2))) {
			t.Errorf("another chain's parts: %v", other.Parts)
		}
	}
}

// P14.6

// The most that a chain can have: 64 descriptors in the ring, or 64 in a table.
func TestMostAccesses(t *testing.T) {
	b := started(t, 65, 30, 0)
	b.post(manyParts(64, 32)...)
	b.nextIs(1063, 64, partsOf(manyParts(64, 32))...)
	b = started(t, 65, 30, 0)
	b.tableOf(free(65), manyParts(64, 32))
	b.post(api.Desc{Addr: uint64(free(65)), Len: 1024, Id: 2, Flags: indirectBit})
	b.nextIs(2, 1, partsOf(manyParts(64, 32))...)
}

// What Done writes: the eight bytes behind Addr, of which none is written
// twice, and the flags after all others; Ask writes four bytes in one access.
func TestWrites(t *testing.T) {
	b := started(t, 4, 3, 1)
	b.m.As(6)
	b.m.Log()
	b.q.Done(1, 1, 2)
	written := map[int]int{}
	for _, a := range b.m.Log() {
		if a.Write && a.Agent == 6 {
			for i := range a.N {
				written[a.At+i]++
			}
		}
	}
	if len(written) != 8 {
		t.Errorf("%d bytes written", len(written))
	}
	for at, times := range written {
		if at < 64+32+8 || at >= 64+32+16 || times != 1 {
			t.Errorf("byte %d written %d times", at, times)
		}
	}
	b.q.Ask(api.Event{Off: 1, Flags: 2})
	if l := b.m.Log(); !slices.Equal(l, []api.Access{{Agent: 6, At: 24, N: 4, Write: true}}) {
		t.Errorf("accesses of Ask: %v", l)
	}
}

// anyLay is a valid layout in a memory of so many bytes; its parts may overlap.
func anyLay(r *numbers, memory int) api.Lay {
	size := 1 + r.below(min(memory/16, 1+r.below(80)))
	return api.Lay{
		Ring: 16 * r.below((memory-16*size)/16+1),
		Size: size,
		Drv:  4 * r.below(memory/4),
		Dev:  4 * r.below(memory/4),
	}
}

// anyDesc is a descriptor of a chain that is often well-formed.
func anyDesc(r *numbers, memory int) api.Desc {
	d := api.Desc{
		Addr:  uint64(r.below(memory)),
		Len:   uint32(1 + r.below(8)),
		Id:    r.below(65536),
		Flags: []int{0, availBit, usedBit, availBit + usedBit}[r.below(4)],
	}
	if r.below(3) == 0 {
		d.Flags |= nextBit
	}
	switch r.below(8) {
	case 0:
		d.Flags |= indirectBit
		d.Len = uint32(16 * (1 + r.below(4)))
	case 1, 2:
		d.Flags |= writeBit
	}
	switch r.below(40) {
	case 0:
		d.Addr = []uint64{1 << 63, 1<<64 - 1, uint64(memory)}[r.below(3)]
	case 1:
		d.Len = []uint32{0, 1<<32 - 1, uint32(memory)}[r.below(3)]
	}
	return d
}

// anyEvent is one of which the Flags are often 0 or 2.
func anyEvent(r *numbers, size int) api.Event {
	return api.Event{
		Off:   r.below(size + 1),
		Wrap:  r.below(2) == 0,
		Flags: []int{0, 1, 2, 2, 2, 3, r.below(65536)}[r.below(7)],
	}
}

// anyCall makes one, of which most are valid.
func (b *bench) anyCall(r *numbers) {
	b.t.Helper()
	switch r.below(12) {
	case 0, 1, 2, 3:
		b.next()
	case 4, 5, 6:
		if b.w.out > 0 {
			b.done(r.below(65536), 1+r.below(b.w.out), r.below(3)*r.below(1<<24))
		}
	case 7:
		b.done(r.below(65538)-1, r.below(b.w.out+2), []int{-1, 0, 1, 1<<32 - 1, 1 << 32}[r.below(5)])
	case 8, 9:
		b.tell()
	case 10:
		b.ask(anyEvent(r, b.w.l.Size))
	case 11:
		b.event(anyEvent(r, b.w.l.Size))
	}
}

// Any bytes, any layout, any calls: each is held against the model, with its
// accesses and all bytes.
func TestAnyBytes(t *testing.T) {
	broken := 0
	for seed := range uint32(1500) {
		r := &numbers{seed}
		memory := 64 + r.below(600)
		m := newMemory(t, memory)
		m.Write(0, r.bytes(memory))
		b := over(t, m, anyLay(r, memory))
		for range 12 {
			b.anyCall(r)
		}
		if b.w.broken {
			broken++
		}
	}
	if broken == 0 || broken == 1500 {
		t.Errorf("%d of 1500 broken", broken)
	}
}

// A driver that writes descriptors, most of them well-formed, while the device
// takes and returns chains.
func TestAnyDriver(t *testing.T) {
	taken, broken := 0, 0
	for seed := range uint32(600) {
		r := &numbers{seed}
		memory := 256 + r.below(1500)
		b := begun(t, memory, anyLay(r, memory))
		for range 60 {
			if r.below(2) == 0 {
				l := make([]api.Desc, 1+r.below(3))
				for i := range l {
					l[i] = anyDesc(r, memory)
					l[i].Flags &^= nextBit + usedBit + availBit
				}
				b.post(l...)
			}
			if r.below(4) == 0 {
				b.put(16*r.below(memory/16), anyDesc(r, memory))
			}
			b.anyCall(r)
			if b.w.broken && r.below(3) == 0 {
				break
			}
		}
		taken += b.w.next
		if b.w.broken {
			broken++
		}
	}
	if taken < 1000 || broken == 0 || broken == 600 {
		t.Errorf("%d slots taken, %d of 600 broken", taken, broken)
	}
}

// The bytes may change between any two calls: a call uses those that are there.
func TestBytesOfTheTime(t *testing.T) {
	b := started(t, 4, 0, 0)
	b.nextIsNone()
	b.post(api.Desc{Addr: 8, Len: 1, Id: 1})
	b.post(api.Desc{Addr: 9, Len: 2, Id: 2, Flags: writeBit})
	b.nextIs(2, 1, api.Part{At: 9, N: 2, Write: true})
	b.write(0, string(make([]byte, b.m.Size())))
	b.nextIsNone()
	b.done(2, 1, 2) // the device knows what it took
	b.write(16, "\x00\x00\x01\x00")
	b.write(16, "\x00\x00\x00\x00")
	b.tellIs(true)
}

// R5: earlier calls, those that return errors among them, make no difference.
func TestAgain(t *testing.T) {
	for range 3 {
		m := newMemory(t, 1024)
		checkLay(t, m, lay(65), false)
		checkLay(t, m, lay(4), true)
		b := over(t, m, lay(4))
		b.post(api.Desc{Addr: 8, Len: 1, Id: 1})
		b.nextIs(1, 1, api.Part{At: 8, N: 1})
		b.nextIsNone()
		b.done(-1, 1, 0)
		b.done(1, 1, 0)
		b.ask(api.Event{Off: -1})
		b.tellIs(true)
		b.post(api.Desc{})
		b.nextBreaks("no bytes")
	}
}
