package drvq_test

import (
	"encoding/binary"
	"fmt"
	"math"
	"math/big"
	"slices"
	"testing"

	"aqueduct/api"
	"aqueduct/devq"
	"aqueduct/drvq"
	"aqueduct/gmem"
)

// The bits of a descriptor's flags, as the chapter on descriptors numbers them.
const (
	nextBit     = 1
	writeBit    = 2
	indirectBit = 4
	availBit    = 128
	usedBit     = 32768
)

// ends are numbers at the ends of an int, and such as are small ones where
// their sign or their upper bits are lost.
func ends() []int {
	return []int{math.MinInt, math.MinInt + 1, math.MinInt + 16, math.MinInt32, -1 << 32, -1<<32 + 1, -65536, -65535, -16, -4, -2, -1, 1<<32 + 1, 1<<62 + 1, math.MaxInt - 15, math.MaxInt - 1, math.MaxInt}
}

// bools are both settings of a wrap counter.
func bools() []bool { return []bool{false, true} }

// numbers are some without a pattern, always the same ones.
type numbers struct{ seed uint32 }

func (r *numbers) below(n int) int {
	r.seed = r.seed*1664525 + 1013904223
	return int(r.seed>>8) % n
}

func (r *numbers) bytes(n int) string {
	b := make([]byte, n)
	for i := range b {
		b[i] = byte(r.below(256))
	}
	return string(b)
}

// encoding has the bytes of a descriptor, by the library's own encodings.
func encoding(d api.Desc) string {
	b := binary.LittleEndian.AppendUint64(nil, d.Addr)
	b = binary.LittleEndian.AppendUint32(b, d.Len)
	b = binary.LittleEndian.AppendUint16(b, uint16(d.Id))
	return string(binary.LittleEndian.AppendUint16(b, uint16(d.Flags)))
}

// decoding is the descriptor of these bytes.
func decoding(s string) api.Desc {
	b := []byte(s)
	return api.Desc{
		Addr:  binary.LittleEndian.Uint64(b),
		Len:   binary.LittleEndian.Uint32(b[8:]),
		Id:    int(binary.LittleEndian.Uint16(b[12:])),
		Flags: int(binary.LittleEndian.Uint16(b[14:])),
	}
}

// eventBytes are those of an event.
func eventBytes(e api.Event) string {
	off := uint16(e.Off)
	if e.Wrap {
		off += 32768
	}
	b := binary.LittleEndian.AppendUint16(nil, off)
	return string(binary.LittleEndian.AppendUint16(b, uint16(e.Flags)))
}

// bits are how available and used are stated for a wrap counter.
func bits(wrap, used bool) int {
	switch {
	case wrap && used:
		return availBit + usedBit
	case wrap:
		return availBit
	case used:
		return 0
	}
	return usedBit
}

// zeros are so many bytes.
func zeros(n int) string { return string(make([]byte, n)) }

// replaced is image with other bytes from an offset on.
func replaced(image string, at int, s string) string { return image[:at] + s + image[at+len(s):] }

// mayBe tells whether a chain of these parts may be posted in a memory of so
// many bytes, if there are slots for it: no sum of great numbers overflows.
func mayBe(parts []api.Part, memory int) bool {
	for i, p := range parts {
		end := new(big.Int).Add(big.NewInt(int64(p.At)), big.NewInt(int64(p.N)))
		if p.N < 1 || p.At < 0 || end.Cmp(big.NewInt(int64(memory))) > 0 {
			return false
		}
		if i > 0 && parts[i-1].Write && !p.Write {
			return false
		}
	}
	return len(parts) >= 1 && len(parts) <= 64
}

// model is what a queue is held against. Its positions are numbers of steps
// from slot 0 with Wrap true, so that none comes again.
type model struct {
	l                api.Lay
	next, back, told int
	held             map[int]int // the number of slots of each id
}

func (w *model) spot(steps int) api.Spot {
	return api.Spot{At: steps % w.l.Size, Wrap: steps/w.l.Size%2 == 0}
}

// offset is where the descriptor of a position is.
func (w *model) offset(steps int) int { return w.l.Ring + 16*w.spot(steps).At }

func (w *model) free() int {
	n := w.l.Size
	for _, slots := range w.held {
		n -= slots
	}
	return n
}

func (w *model) ids() []int {
	var l []int
	for id := range w.l.Size {
		if w.held[id] > 0 {
			l = append(l, id)
		}
	}
	return l
}

func (w *model) smallest() int {
	for id := range w.l.Size {
		if w.held[id] == 0 {
			return id
		}
	}
	return -1
}

// posted is what the descriptors of a chain from NEXT on are.
func (w *model) posted(id int, parts []api.Part) []api.Desc {
	var l []api.Desc
	for i, p := range parts {
		d := api.Desc{Addr: uint64(p.At), Len: uint32(p.N), Id: id}
		if i < len(parts)-1 {
			d.Flags += nextBit
		}
		if p.Write {
			d.Flags += writeBit
		}
		d.Flags += bits(w.spot(w.next+i).Wrap, false)
		l = append(l, d)
	}
	return l
}

// returned is the descriptor at BACK, and whether it is used.
func (w *model) returned(image string) (api.Desc, bool) {
	at := w.offset(w.back)
	d := decoding(image[at : at+16])
	return d, d.Flags&(availBit+usedBit) == bits(w.spot(w.back).Wrap, true)
}

// need is whether the device must be notified: each position that was left is
// held against the event.
func (w *model) need(image string) bool {
	b := []byte(image[w.l.Dev:])
	off, flags := int(binary.LittleEndian.Uint16(b)), int(binary.LittleEndian.Uint16(b[2:]))
	if w.next-w.told > w.l.Size {
		return flags == 0 || flags == 2
	}
	for steps := w.told; steps < w.next; steps++ {
		if flags == 0 || flags == 2 && w.spot(steps) == (api.Spot{At: off % 32768, Wrap: off >= 32768}) {
			return true
		}
	}
	return false
}

// bench is a queue on a memory, beside its model. Each call is held against
// it: the results, what is written and in which order, and all bytes.
type bench struct {
	t   *testing.T
	m   *gmem.Memory
	q   *drvq.Queue
	w   model
	dev int // steps to where the device returns the next chain
}

// lay is a layout in which nothing is at the memory's beginning.
func lay(size int) api.Lay { return api.Lay{Ring: 64, Size: size, Drv: 16, Dev: 24} }

// free is where the bytes begin that the layout does not take.
func free(size int) int { return 64 + 16*size }

// roomOf is the number of bytes of a memory with a ring and with some behind it.
func roomOf(size int) int { return free(size) + 1024 }

func newMemory(t *testing.T, size int) *gmem.Memory {
	t.Helper()
	m, e := gmem.New(size)
	if e != api.OK {
		t.Fatalf("gmem.New(%d): %d", size, e)
	}
	return m
}

// over is a queue of this layout on m.
func over(t *testing.T, m *gmem.Memory, l api.Lay) *bench {
	t.Helper()
	q, e := drvq.New(m, l)
	if e != api.OK || q == nil {
		t.Fatalf("New(%v) on %d bytes: %v, %d", l, m.Size(), q, e)
	}
	m.Log()
	b := &bench{t: t, m: m, q: q, w: model{l: l, held: map[int]int{}}}
	b.state("New")
	return b
}

// begun is a queue of this size, of which so many slots were posted and reaped
// one by one, and all were told.
func begun(t *testing.T, size, passed int) *bench {
	t.Helper()
	b := over(t, newMemory(t, roomOf(size)), lay(size))
	b.pass(passed)
	b.tell()
	return b
}

// state checks what can be seen of the queue without a change.
func (b *bench) state(call string) {
	b.t.Helper()
	image := b.m.Image()
	b.m.Log()
	if got := b.q.Free(); got != b.w.free() {
		b.t.Errorf("%s: Free %d, want %d", call, got, b.w.free())
	}
	if got := b.q.Held(); !slices.Equal(got, b.w.ids()) {
		b.t.Errorf("%s: Held %v, want %v", call, got, b.w.ids())
	}
	if got := b.q.Back(); got != b.w.spot(b.w.back) {
		b.t.Errorf("%s: Back %v, want %v", call, got, b.w.spot(b.w.back))
	}
	b.unwritten(call, image)
}

// unwritten checks that nothing was written since the log was read last.
func (b *bench) unwritten(call, before string) {
	b.t.Helper()
	for _, a := range b.m.Log() {
		if a.Write {
			b.t.Errorf("%s: writes, %v", call, a)
		}
	}
	if b.m.Image() != before {
		b.t.Errorf("%s: other bytes", call)
	}
}

// refusal is the error that the parts have.
func (b *bench) refusal(parts []api.Part) api.Errno {
	if !mayBe(parts, b.m.Size()) {
		return api.ErrDrvForm
	}
	if len(parts) > b.w.free() {
		return api.ErrDrvFull
	}
	return api.OK
}

// post calls Post and holds it against the model.
func (b *bench) post(parts ...api.Part) (int, api.Errno) {
	b.t.Helper()
	image, want := b.m.Image(), b.refusal(parts)
	b.m.Log()
	id, e := b.q.Post(parts)
	call := fmt.Sprintf("Post(%v) of %+v", parts, b.w)
	if want != api.OK {
		if id != 0 || e != want {
			b.t.Errorf("%s: %d, %d, want 0, %d", call, id, e, want)
		}
		b.unwritten(call, image)
		b.state(call)
		return id, e
	}
	if id != b.w.smallest() || e != api.OK {
		b.t.Fatalf("%s: %d, %d, want %d, 0", call, id, e, b.w.smallest())
	}
	b.checkPosted(call, image, b.w.posted(id, parts))
	b.w.held[id] = len(parts)
	b.w.next += len(parts)
	b.state(call)
	return id, e
}

// checkPosted checks that the descriptors were written from NEXT on, and
// nothing else, the first one's flags last.
func (b *bench) checkPosted(call, image string, l []api.Desc) {
	b.t.Helper()
	flagsAt, done := b.w.offset(b.w.next)+14, false
	for _, a := range b.m.Log() {
		if !a.Write {
			continue
		}
		if done {
			b.t.Errorf("%s: %v is written after the first flags", call, a)
		}
		done = a.At < flagsAt+2 && a.At+a.N > flagsAt
		if done && a.At > flagsAt {
			b.t.Errorf("%s: the first flags are written in parts, %v", call, a)
		}
	}
	if !done {
		b.t.Errorf("%s: the first flags are not written last", call)
	}
	for i, d := range l {
		image = replaced(image, b.w.offset(b.w.next+i), encoding(d))
	}
	if b.m.Image() != image {
		at := b.w.offset(b.w.next)
		b.t.Errorf("%s: at %d %x, want %x, or others are not as before", call, at, b.m.Image()[at:at+16], image[at:at+16])
	}
}

// reap calls Reap and holds it against the model.
func (b *bench) reap() (int, int, bool, api.Errno) {
	b.t.Helper()
	image := b.m.Image()
	b.m.Log()
	id, n, is, e := b.q.Reap()
	call := fmt.Sprintf("Reap of %+v", b.w)
	b.unwritten(call, image)
	d, used := b.w.returned(image)
	switch {
	case !used:
		b.checkReaped(call, id, n, is, e, 0, 0, false, api.OK)
	case b.w.held[d.Id] == 0:
		b.checkReaped(call, id, n, is, e, 0, 0, false, api.ErrDrvForm)
	default:
		b.checkReaped(call, id, n, is, e, d.Id, int(d.Len), true, api.OK)
		b.w.back += b.w.held[d.Id]
		delete(b.w.held, d.Id)
	}
	b.state(call)
	return id, n, is, e
}

func (b *bench) checkReaped(call string, id, n int, is bool, e api.Errno, wantId, wantN int, want bool, wantErr api.Errno) {
	b.t.Helper()
	if id != wantId || n != wantN || is != want || e != wantErr {
		b.t.Errorf("%s: %d, %d, %v, %d, want %d, %d, %v, %d", call, id, n, is, e, wantId, wantN, want, wantErr)
	}
}

// reapIs calls Reap, which takes back this chain.
func (b *bench) reapIs(id, n int) {
	b.t.Helper()
	gotId, gotN, is, e := b.reap()
	b.checkReaped("Reap", gotId, gotN, is, e, id, n, true, api.OK)
}

// reapIsNone calls Reap, which finds nothing.
func (b *bench) reapIsNone() {
	b.t.Helper()
	id, n, is, e := b.reap()
	b.checkReaped("Reap", id, n, is, e, 0, 0, false, api.OK)
}

// reapIsWrong calls Reap, which finds an id that is not held.
func (b *bench) reapIsWrong() {
	b.t.Helper()
	id, n, is, e := b.reap()
	b.checkReaped("Reap", id, n, is, e, 0, 0, false, api.ErrDrvForm)
}

// postIs calls Post, which holds this id.
func (b *bench) postIs(id int, parts ...api.Part) {
	b.t.Helper()
	if got, e := b.post(parts...); got != id || e != api.OK {
		b.t.Errorf("Post(%v): %d, %d, want %d, 0", parts, got, e, id)
	}
}

// postFails calls Post, which returns this error.
func (b *bench) postFails(want api.Errno, parts ...api.Part) {
	b.t.Helper()
	if id, e := b.post(parts...); id != 0 || e != want {
		b.t.Errorf("Post(%v): %d, %d, want 0, %d", parts, id, e, want)
	}
}

// tell calls Tell and holds it against the model.
func (b *bench) tell() bool {
	b.t.Helper()
	image := b.m.Image()
	b.m.Log()
	got := b.q.Tell()
	call := fmt.Sprintf("Tell of %+v, event %x", b.w, image[b.w.l.Dev:b.w.l.Dev+4])
	b.unwritten(call, image)
	if got != b.w.need(image) {
		b.t.Errorf("%s: %v", call, got)
	}
	b.w.told = b.w.next
	b.state(call)
	return got
}

// tellIs calls Tell, which returns this.
func (b *bench) tellIs(want bool) {
	b.t.Helper()
	if got := b.tell(); got != want {
		b.t.Errorf("Tell of %+v: %v", b.w, got)
	}
}

// ask calls Ask and holds it against the model.
func (b *bench) ask(ev api.Event) api.Errno {
	b.t.Helper()
	image := b.m.Image()
	b.m.Log()
	e := b.q.Ask(ev)
	call := fmt.Sprintf("Ask(%v) of %+v", ev, b.w)
	if ev.Off < 0 || ev.Off > 32767 || ev.Flags < 0 || ev.Flags > 65535 {
		if e != api.ErrArg {
			b.t.Errorf("%s: %d, want %d", call, e, api.ErrArg)
		}
		b.unwritten(call, image)
		b.state(call)
		return e
	}
	if e != api.OK {
		b.t.Errorf("%s: %d, want 0", call, e)
	}
	if b.m.Image() != replaced(image, b.w.l.Drv, eventBytes(ev)) {
		b.t.Errorf("%s: other bytes", call)
	}
	b.state(call)
	return e
}

// write writes bytes as a device does, or anyone who has the memory.
func (b *bench) write(at int, s string) {
	b.t.Helper()
	if e := b.m.Write(at, s); e != api.OK {
		b.t.Fatalf("Write(%d, %d bytes): %d", at, len(s), e)
	}
}

// event writes the device's event.
func (b *bench) event(e api.Event) {
	b.t.Helper()
	b.write(b.w.l.Dev, eventBytes(e))
}

// give returns a chain as a device does: one descriptor is used, and the next
// one is returned as many slots after it as the chain has.
func (b *bench) give(id, n int) {
	b.t.Helper()
	at, flags := b.w.offset(b.dev), bits(b.w.spot(b.dev).Wrap, true)
	if n > 0 {
		flags += writeBit
	}
	d := decoding(b.m.Image()[at : at+16])
	d.Len, d.Id, d.Flags = uint32(n), id, flags
	b.write(at, encoding(d))
	b.dev += b.w.held[id]
}

// pass posts so many chains of one slot, and returns and reaps each.
func (b *bench) pass(n int) {
	b.t.Helper()
	for range n {
		id, e := b.post(readable(1)...)
		if e != api.OK {
			b.t.Fatalf("Post: %d", e)
		}
		b.give(id, 0)
		b.reapIs(id, 0)
	}
}

// giveAll returns and reaps all chains, the smallest id first.
func (b *bench) giveAll() {
	b.t.Helper()
	for _, id := range b.w.ids() {
		b.give(id, 2*id)
		b.reapIs(id, 2*id)
	}
	if b.q.Free() != b.w.l.Size || len(b.q.Held()) != 0 {
		b.t.Errorf("Free %d, Held %v", b.q.Free(), b.q.Held())
	}
}

// clone is one of all, on a clone of the memory.
func (b *bench) clone() *bench {
	m := b.m.Clone()
	c := &bench{t: b.t, m: m, q: b.q.Clone(m), w: b.w, dev: b.dev}
	c.w.held = map[int]int{}
	for id, slots := range b.w.held {
		c.w.held[id] = slots
	}
	return c
}

// someParts are parts, of which each differs, and so many of the last ones are
// writable.
func someParts(n, writable int) []api.Part {
	l := make([]api.Part, n)
	for i := range l {
		l[i] = api.Part{At: 3 * i, N: 1 + i, Write: i >= n-writable}
	}
	return l
}

// readable are parts, of which none is writable.
func readable(n int) []api.Part { return someParts(n, 0) }

// P15.1

// checkWrongLay checks that New returns the error of devq.Check, and that it
// writes nothing then.
func checkWrongLay(t *testing.T, m *gmem.Memory, l api.Lay) {
	t.Helper()
	image := m.Image()
	m.Log()
	q, e := drvq.New(m, l)
	if q != nil || e != api.ErrDevForm || e != devq.Check(m, l) {
		t.Errorf("New(%v) on %d bytes: %v, %d", l, m.Size(), q, e)
	}
	for _, a := range m.Log() {
		if a.Write {
			t.Errorf("New(%v): writes, %v", l, a)
		}
	}
	if m.Image() != image {
		t.Errorf("New(%v): other bytes", l)
	}
}

// checkLay checks that New overwrites with zeros the bytes of this layout, and
// no others, and how the queue begins.
func checkLay(t *testing.T, m *gmem.Memory, l api.Lay) *drvq.Queue {
	t.Helper()
	image := replaced(m.Image(), l.Ring, zeros(16*l.Size))
	image = replaced(replaced(image, l.Drv, zeros(4)), l.Dev, zeros(4))
	q, e := drvq.New(m, l)
	if q == nil || e != api.OK || e != devq.Check(m, l) {
		t.Fatalf("New(%v) on %d bytes: %v, %d", l, m.Size(), q, e)
	}
	if m.Image() != image {
		t.Errorf("New(%v) on %d bytes: other bytes than zeros, or elsewhere", l, m.Size())
	}
	if q.Free() != l.Size || len(q.Held()) != 0 || q.Back() != (api.Spot{Wrap: true}) {
		t.Errorf("New(%v): Free %d, Held %v, Back %v", l, q.Free(), q.Held(), q.Back())
	}
	if id, n, is, e := q.Reap(); id != 0 || n != 0 || is || e != api.OK {
		t.Errorf("New(%v): Reap %d, %d, %v, %d", l, id, n, is, e)
	}
	if q.Tell() {
		t.Errorf("New(%v): Tell", l)
	}
	return q
}

// filled is a memory without any zero.
func filled(t *testing.T, size int) *gmem.Memory {
	t.Helper()
	m := newMemory(t, size)
	b := make([]byte, size)
	for i := range b {
		b[i] = byte(1 + i%255)
	}
	m.Write(0, string(b))
	return m
}

func TestNewWrongSizes(t *testing.T) {
	m := filled(t, 1<<20)
	for _, size := range append(ends(), 0, 32769, 65535, 65536, 65537, -32768, 1<<28, 1<<28+1, 1<<60, 1<<60+1, 1<<61+1) {
		checkWrongLay(t, m, api.Lay{Ring: 16, Size: size, Drv: 0, Dev: 4})
	}
}

func TestNewWrongPlaces(t *testing.T) {
	m := filled(t, 1024)
	rings := append(ends(), 1, 4, 8, 15, 17, 24, 1007, 1008, 1009, 1016, 1024, 1040, 1<<20, -1024)
	for _, ring := range rings {
		checkWrongLay(t, m, api.Lay{Ring: ring, Size: 2, Drv: 0, Dev: 4})
	}
	for _, at := range append(ends(), 1, 2, 3, 5, 6, 7, 1018, 1021, 1022, 1023, 1024, 1028, 2048, -8, -1024) {
		checkWrongLay(t, m, api.Lay{Ring: 32, Size: 4, Drv: at, Dev: 8})
		checkWrongLay(t, m, api.Lay{Ring: 32, Size: 4, Drv: 8, Dev: at})
		checkWrongLay(t, m, api.Lay{Ring: 8, Size: 0, Drv: at, Dev: at})
	}
	for _, x := range []api.Lay{{Ring: 0, Size: 65}, {Ring: 16, Size: 64}, {Ring: 1008, Size: 2}, {Ring: 992, Size: 3}} {
		checkWrongLay(t, m, x)
	}
}

func TestNewZeros(t *testing.T) {
	for _, memory := range []int{64, 65, 79, 80, 1024, 1030} {
		for _, size := range []int{1, 2, 3, 4, 5, 63, 64} {
			for _, ring := range []int{0, 16, 48, 512, memory/16*16 - 16*size} {
				if ring < 0 || ring+16*size > memory {
					continue
				}
				last := memory/4*4 - 4
				for _, x := range [][2]int{{0, 4}, {4, 0}, {last, last - 4}, {last - 4, last}, {0, last}, {8, 8}, {ring, ring + 4}, {ring + 8, ring + 12}} {
					checkLay(t, filled(t, memory), api.Lay{Ring: ring, Size: size, Drv: x[0], Dev: x[1]})
				}
			}
		}
	}
}

// Zeros are written over bytes of all kinds, also over such as state that a
// descriptor is used.
func TestNewOverUsed(t *testing.T) {
	for _, flags := range []int{availBit + usedBit, availBit, usedBit, 65535} {
		m := newMemory(t, 1024)
		for slot := range 4 {
			m.Write(64+16*slot, encoding(api.Desc{Addr: 8, Len: 1, Id: slot, Flags: flags}))
		}
		m.Write(16, "\xff\xff\xff\xff\x01\x02\x03\x04\x00\x80\x02\x00")
		q := checkLay(t, m, lay(4))
		if id, e := q.Post(readable(1)); id != 0 || e != api.OK {
			t.Errorf("Post: %d, %d", id, e)
		}
		if !q.Tell() {
			t.Error("Tell: the device's event is not zero")
		}
	}
}

func TestNewGreatestRing(t *testing.T) {
	checkLay(t, filled(t, 1<<20), api.Lay{Ring: 16, Size: 32768, Drv: 0, Dev: 4})
	checkLay(t, filled(t, 1<<20), api.Lay{Ring: 1 << 19, Size: 32768, Drv: 8, Dev: 8})
}

// A second queue of the same layout begins anew, whatever the first one did.
func TestNewAgain(t *testing.T) {
	b := begun(t, 4, 6)
	b.post(readable(3)...)
	b.ask(api.Event{Off: 3, Flags: 2})
	b.event(api.Event{Flags: 1})
	checkLay(t, b.m, b.w.l)
}

// Two queues of one memory have nothing in common but its bytes.
func TestTwoQueuesOfOneMemory(t *testing.T) {
	m := newMemory(t, 1024)
	a := over(t, m, api.Lay{Ring: 0, Size: 2, Drv: 512, Dev: 516})
	c := over(t, m, api.Lay{Ring: 32, Size: 3, Drv: 520, Dev: 524})
	a.postIs(0, readable(2)...)
	c.postIs(0, readable(1)...)
	c.postIs(1, readable(1)...)
	a.postFails(api.ErrDrvFull, readable(1)...)
	c.give(1, 5)
	a.reapIsNone()
	c.reapIs(1, 5)
	a.give(0, 6)
	c.reapIsNone()
	a.reapIs(0, 6)
	a.tellIs(true)
	c.tellIs(true)
	c.giveAll()
}

// P15.2

func TestPostExample(t *testing.T) {
	m := newMemory(t, 1024)
	b := over(t, m, api.Lay{Ring: 0, Size: 4, Drv: 512, Dev: 516})
	b.postIs(0, readable(2)...)
	if b.q.Free() != 2 {
		t.Errorf("Free %d", b.q.Free())
	}
	b.postFails(api.ErrDrvFull, readable(3)...)
	b.reapIsNone()
}

// The bytes of a chain, written out: over the last slot, where Wrap changes.
func TestPostBytes(t *testing.T) {
	b := begun(t, 3, 2)
	b.write(64, string(slices.Repeat([]byte{0xee}, 48)))
	b.postIs(0, api.Part{At: 0x123, N: 0x145}, api.Part{At: 8, N: 1}, api.Part{At: 9, N: 0x210, Write: true})
	if s := b.m.Image()[64:112]; s != "\x08\x00\x00\x00\x00\x00\x00\x00\x01\x00\x00\x00\x00\x00\x01\x80"+
		"\x09\x00\x00\x00\x00\x00\x00\x00\x10\x02\x00\x00\x00\x00\x02\x80"+
		"\x23\x01\x00\x00\x00\x00\x00\x00\x45\x01\x00\x00\x00\x00\x81\x00" {
		t.Errorf("ring %x", s)
	}
	b.give(0, 3)
	b.reapIs(0, 3)
	b.pass(5) // to slot 1 with Wrap false
	b.write(64, string(slices.Repeat([]byte{0xee}, 48)))
	b.postIs(0, api.Part{At: 4, N: 7, Write: true})
	b.postIs(1, api.Part{At: 5, N: 8}, api.Part{At: 6, N: 9})
	if s := b.m.Image()[64:112]; s != "\x06\x00\x00\x00\x00\x00\x00\x00\x09\x00\x00\x00\x01\x00\x80\x00"+
		"\x04\x00\x00\x00\x00\x00\x00\x00\x07\x00\x00\x00\x00\x00\x02\x80"+
		"\x05\x00\x00\x00\x00\x00\x00\x00\x08\x00\x00\x00\x01\x00\x01\x80" {
		t.Errorf("ring %x", s)
	}
}

// Chains of all lengths from each slot on, with both settings of Wrap, over
// bytes of any kind (post holds all bytes against the model).
func TestPostEverywhere(t *testing.T) {
	r := &numbers{3}
	for _, size := range []int{1, 2, 3, 4, 7} {
		for passed := range 4*size + 1 {
			for n := 0; n <= size+1; n++ {
				for writable := 0; writable <= n; writable++ {
					b := begun(t, size, passed)
					b.write(64, r.bytes(16*size))
					b.post(someParts(n, writable)...)
					b.post(someParts(1, writable%2)...)
					b.post(someParts(size, 0)...)
				}
			}
		}
	}
}

// No parts, and as many as there are and one more, with slots that are taken.
func TestPostCounts(t *testing.T) {
	for _, size := range []int{1, 2, 4, 5} {
		for taken := 0; taken <= size; taken++ {
			for _, passed := range []int{0, size - 1, size + 1} {
				for n := 0; n <= size+2; n++ {
					b := begun(t, size, passed)
					for range taken {
						b.post(readable(1)...)
					}
					room := size - taken
					switch {
					case n == 0:
						b.postFails(api.ErrDrvForm)
					case n > room:
						b.postFails(api.ErrDrvFull, readable(n)...)
					default:
						b.postIs(taken, someParts(n, n/2)...)
					}
					b.giveAll()
				}
			}
		}
	}
}

// Of 64 parts a chain may be, of 65 not, however many slots are free.
func TestPostLongest(t *testing.T) {
	for _, x := range []struct {
		size, passed, taken, n int
		want                   api.Errno
	}{
		{64, 0, 0, 63, api.OK}, {64, 0, 0, 64, api.OK}, {64, 0, 0, 65, api.ErrDrvForm}, {64, 30, 0, 64, api.OK}, {64, 63, 0, 64, api.OK}, {64, 127, 0, 64, api.OK},
		{64, 1, 1, 63, api.OK}, {64, 1, 1, 64, api.ErrDrvFull}, {64, 1, 1, 65, api.ErrDrvForm},
		{65, 0, 0, 64, api.OK}, {65, 0, 0, 65, api.ErrDrvForm}, {65, 0, 0, 66, api.ErrDrvForm}, {65, 40, 1, 64, api.OK}, {65, 40, 2, 64, api.ErrDrvFull}, {65, 40, 2, 63, api.OK},
		{128, 100, 0, 64, api.OK}, {128, 100, 0, 65, api.ErrDrvForm}, {128, 100, 64, 64, api.OK}, {128, 100, 65, 64, api.ErrDrvFull}, {128, 100, 65, 63, api.OK},
		{200, 350, 0, 64, api.OK}, {200, 350, 0, 65, api.ErrDrvForm}, {200, 350, 0, 200, api.ErrDrvForm}, {1, 0, 0, 64, api.ErrDrvFull}, {1, 0, 0, 65, api.ErrDrvForm}, {1, 0, 1, 65, api.ErrDrvForm}, {1, 0, 1, 64, api.ErrDrvFull},
	} {
		b := begun(t, x.size, x.passed)
		for range x.taken {
			b.post(readable(1)...)
		}
		for _, writable := range []int{0, x.n / 2, x.n} {
			c := b.clone()
			if x.want == api.OK {
				c.postIs(x.taken, someParts(x.n, writable)...)
			} else {
				c.postFails(x.want, someParts(x.n, writable)...)
			}
			c.giveAll()
		}
	}
}

// partCases are parts that are valid, or not.
func partCases(memory int) map[api.Part]bool {
	cases := map[api.Part]bool{
		{At: 0, N: 1}: true, {At: 0, N: memory}: true, {At: 7, N: memory - 7}: true, {At: memory - 1, N: 1}: true, {At: memory - 5, N: 5}: true,
		{At: 0, N: 0}: false, {At: 9, N: 0}: false, {At: memory - 1, N: 0}: false, {At: memory, N: 0}: false, {At: -1, N: 0}: false,
		{At: 0, N: memory + 1}: false, {At: 1, N: memory}: false, {At: memory - 1, N: 2}: false, {At: memory - 5, N: 6}: false, {At: memory, N: 1}: false,
		{At: memory + 1, N: 1}: false, {At: 2 * memory, N: 1}: false, {At: 1 << 20, N: 1}: false, {At: 1 << 32, N: 1}: false, {At: 1<<32 + 8, N: 1}: false,
		{At: 8, N: -1}: false, {At: -1, N: 1}: false, {At: -1, N: 2}: false, {At: -8, N: 16}: false, {At: -1, N: -1}: false, {At: 8, N: 1<<32 + 1}: false, {At: 8, N: 1<<32 - 1}: false,
		{At: math.MaxInt, N: math.MaxInt}: false, {At: math.MinInt, N: math.MinInt}: false, {At: math.MinInt, N: math.MaxInt}: false, {At: math.MaxInt, N: math.MinInt}: false, {At: math.MinInt + 8, N: math.MinInt}: false,
	}
	for _, end := range ends() {
		for _, right := range []int{0, 1, 8, memory} {
			cases[api.Part{At: end, N: right}] = false
			cases[api.Part{At: right, N: end}] = false
		}
	}
	return cases
}

// One part that is valid or not, at each place of a chain, readable and
// writable.
func TestPostParts(t *testing.T) {
	first := begun(t, 8, 6)
	for p, valid := range partCases(first.m.Size()) {
		for n := 1; n <= 3; n++ {
			for which := range n {
				for _, writable := range []int{0, n} {
					l := someParts(n, writable)
					l[which].At, l[which].N = p.At, p.N
					b := first.clone()
					if valid {
						b.postIs(0, l...)
					} else {
						b.postFails(api.ErrDrvForm, l...)
					}
					b.postIs(len(b.w.ids()), readable(1)...)
				}
			}
		}
	}
}

// All orders of readable and writable parts: no readable one follows a writable
// one, at once or later.
func TestPostOrders(t *testing.T) {
	for n := 1; n <= 7; n++ {
		for order := range 1 << n {
			l, valid := readable(n), true
			for i := range l {
				l[i].Write = order>>i&1 != 0
				if !l[i].Write && order&(1<<i-1) != 0 {
					valid = false
				}
			}
			b := begun(t, 7, 5)
			if valid {
				b.postIs(0, l...)
			} else {
				b.postFails(api.ErrDrvForm, l...)
			}
			b.giveAll()
			b.postIs(0, readable(7)...)
		}
	}
}

// One readable part among writable ones and one writable part among readable
// ones, in a chain of 64.
func TestPostOrdersOfMany(t *testing.T) {
	first := begun(t, 64, 20)
	for which := range 64 {
		l := someParts(64, 64)
		l[which].Write = false
		b := first.clone()
		if which == 0 {
			b.postIs(0, l...)
		} else {
			b.postFails(api.ErrDrvForm, l...)
		}
		l = readable(64)
		l[which].Write = true
		b = first.clone()
		if which == 63 {
			b.postIs(0, l...)
		} else {
			b.postFails(api.ErrDrvForm, l...)
		}
	}
}

// One chain's writable part does not matter to the next chain.
func TestPostOrderOfChains(t *testing.T) {
	b := begun(t, 4, 3)
	b.postIs(0, someParts(1, 1)...)
	b.postIs(1, readable(1)...)
	b.postIs(2, someParts(2, 1)...)
	b.giveAll()
}

// Several errors at once: those of the parts are named before too few slots,
// and all of those are the same.
func TestPostErrorsTogether(t *testing.T) {
	for taken := range 4 {
		b := begun(t, 3, 2)
		for range taken {
			b.post(readable(1)...)
		}
		full := readable(4)
		b.postFails(api.ErrDrvFull, full...)
		for which := range 4 {
			for _, p := range []api.Part{{At: 8}, {At: 8, N: -1}, {At: -1, N: 1}, {At: b.m.Size(), N: 1}, {At: math.MaxInt, N: math.MaxInt}} {
				l := slices.Clone(full)
				l[which] = p
				b.postFails(api.ErrDrvForm, l...)
				l[0].Write = true
				b.postFails(api.ErrDrvForm, l...)
			}
		}
		b.postFails(api.ErrDrvForm, readable(65)...)
		b.postFails(api.ErrDrvForm, make([]api.Part, 65)...)
		b.postFails(api.ErrDrvForm, make([]api.Part, 64)...)
		b.postFails(api.ErrDrvForm)
		full[2].Write = true
		b.postFails(api.ErrDrvForm, full...)
		full[3].Write = true
		b.postFails(api.ErrDrvFull, full...)
		b.giveAll()
	}
}

// A refused Post changes nothing: what comes after it is as without it, in each
// of the calls.
func TestPostRefused(t *testing.T) {
	for _, wrong := range [][]api.Part{nil, readable(65), {{At: 8}}, readable(4), {{At: 8, N: 1, Write: true}, {At: 8, N: 1}}} {
		b := begun(t, 4, 7)
		b.postIs(0, readable(1)...)
		b.postIs(1, readable(1)...)
		b.tell()
		b.post(wrong...)
		b.tellIs(false)
		b.give(1, 9)
		b.post(wrong...)
		b.reapIs(1, 9)
		b.post(wrong...)
		b.postIs(1, someParts(3, 1)...)
		b.tellIs(true)
		b.giveAll()
	}
}

// The parts may overlap each other, the ring and the events, and be the same.
func TestPostOverlappingParts(t *testing.T) {
	b := begun(t, 4, 0)
	b.postIs(0, api.Part{N: b.m.Size()}, api.Part{At: 64, N: 64, Write: true}, api.Part{At: 64, N: 64, Write: true}, api.Part{At: 16, N: 12, Write: true})
}

// Numbers of three bytes, in the greatest memory: a part at its end, and one
// that is all of it.
func TestPostGreatParts(t *testing.T) {
	b := over(t, newMemory(t, 1<<20), lay(4))
	b.postIs(0, api.Part{At: 0x54321, N: 0x67890}, api.Part{At: 1<<20 - 1, N: 1}, api.Part{N: 1 << 20, Write: true})
	if s := b.m.Image()[64:112]; s != "\x21\x43\x05\x00\x00\x00\x00\x00\x90\x78\x06\x00\x00\x00\x81\x00"+
		"\xff\xff\x0f\x00\x00\x00\x00\x00\x01\x00\x00\x00\x00\x00\x81\x00"+
		"\x00\x00\x00\x00\x00\x00\x00\x00\x00\x00\x10\x00\x00\x00\x82\x00" {
		t.Errorf("ring %x", s)
	}
	b.postFails(api.ErrDrvForm, api.Part{At: 1, N: 1 << 20})
	b.postFails(api.ErrDrvForm, api.Part{N: 1<<20 + 1})
	b.giveAll()
}

// The smallest id that is not held, after ids were returned in another order
// than they were posted.
func TestPostSmallestId(t *testing.T) {
	b := begun(t, 8, 5)
	for id := range 8 {
		b.postIs(id, readable(1)...)
	}
	for _, order := range [][]int{{7}, {0}, {3}, {5, 2}, {2, 5}, {6, 1, 4}, {7, 6, 0}, {0, 7, 3, 4}, {7, 6, 5, 4, 3, 2, 1, 0}, {0, 1, 2, 3, 4, 5, 6, 7}} {
		for _, id := range order {
			b.give(id, id)
			b.reapIs(id, id)
		}
		for _, id := range slices.Sorted(slices.Values(order)) {
			b.postIs(id, readable(1)...)
		}
	}
	// An id that is returned between two that are posted is the next one.
	b.give(6, 0)
	b.give(2, 0)
	b.reapIs(6, 0)
	b.postIs(6, readable(1)...)
	b.reapIs(2, 0)
	b.give(4, 0)
	b.reapIs(4, 0)
	b.postIs(2, readable(1)...)
	b.give(0, 0)
	b.reapIs(0, 0)
	b.postIs(0, readable(1)...)
	b.postIs(4, readable(1)...)
}

// Chains of several slots have one id each, and ids have no slot of their own.
func TestPostIdsOfLongChains(t *testing.T) {
	b := begun(t, 8, 6)
	b.postIs(0, readable(3)...)
	b.postIs(1, readable(1)...)
	b.postIs(2, readable(4)...)
	b.give(1, 0)
	b.reapIs(1, 0)
	b.postIs(1, readable(1)...)
	b.give(2, 0)
	b.give(0, 0)
	b.reapIs(2, 0)
	b.reapIs(0, 0)
	b.postIs(0, readable(5)...)
	b.postIs(2, readable(1)...)
	b.postIs(3, readable(1)...)
	b.giveAll()
}

// The flags of the first descriptor are written last of all, and until then the
// descriptor at NEXT remains as it was: not available.
func TestPostFlagsLast(t *testing.T) {
	for _, size := range []int{1, 2, 3, 64} {
		for _, passed := range []int{0, 1, size - 1, size, 2*size - 1} {
			for n := 1; n <= size; n++ {
				b := begun(t, size, passed)
				b.m.As(5)
				b.m.Log()
				if _, e := b.q.Post(readable(n)); e != api.OK {
					t.Fatalf("Post of %d in %d: %d", n, size, e)
				}
				l := b.m.Log()
				l = slices.DeleteFunc(l, func(a api.Access) bool { return !a.Write })
				flagsAt := b.w.offset(passed) + 14
				last := l[len(l)-1]
				if last.At > flagsAt || last.At+last.N < flagsAt+2 || last.Agent != 5 {
					t.Errorf("Post of %d in %d: the last write is %v, the flags are at %d", n, size, last, flagsAt)
				}
				for _, a := range l[:len(l)-1] {
					if a.At < flagsAt+2 && a.At+a.N > flagsAt {
						t.Errorf("Post of %d in %d: %v writes the flags at %d", n, size, a, flagsAt)
					}
				}
			}
		}
	}
}

// R4: the parts are neither changed nor kept, with what is behind them.
func TestPostLeavesParts(t *testing.T) {
	b := begun(t, 4, 3)
	all := someParts(9, 4)
	parts := all[2:6:8]
	want := slices.Clone(all)
	for range 3 {
		if id, e := b.q.Post(parts); id != 0 || e != api.OK {
			t.Fatalf("Post: %d, %d", id, e)
		}
		if !slices.Equal(all, want) {
			t.Errorf("Post changes the parts to %v", all)
		}
		b.w.held[0], b.w.next = 4, b.w.next+4
		image := b.m.Image()
		for i := range all {
			all[i] = api.Part{At: -1, N: -1, Write: true}
		}
		b.state("other parts")
		if b.m.Image() != image {
			t.Error("other bytes")
		}
		copy(all, want)
		b.giveAll()
	}
	wrong := []api.Part{{At: 8, N: 1, Write: true}, {At: 8}, {At: 1 << 40, N: 1}}
	before := slices.Clone(wrong)
	b.postFails(api.ErrDrvForm, wrong[:0]...)
	b.postFails(api.ErrDrvForm, wrong[1:2]...)
	b.postFails(api.ErrDrvForm, wrong[2:]...)
	b.postFails(api.ErrDrvForm, wrong...)
	if !slices.Equal(wrong, before) {
		t.Errorf("Post changes the parts to %v", wrong)
	}
}

// The greatest ring, full of chains of one slot, and emptied in another order.
func TestGreatestRing(t *testing.T) {
	m := newMemory(t, 1<<20)
	l := api.Lay{Ring: 16, Size: 32768, Drv: 0, Dev: 4}
	q := checkLay(t, m, l)
	for round := range 2 {
		for want := range 32768 {
			if id, e := q.Post(readable(1)); id != want || e != api.OK {
				t.Fatalf("Post: %d, %d, want %d", id, e, want)
			}
		}
		if id, e := q.Post(readable(1)); id != 0 || e != api.ErrDrvFull || q.Free() != 0 {
			t.Fatalf("Post: %d, %d, Free %d", id, e, q.Free())
		}
		if held := q.Held(); len(held) != 32768 || held[32767] != 32767 {
			t.Errorf("Held: %d ids", len(held))
		}
		if !q.Tell() {
			t.Error("Tell")
		}
		for i := range 32768 {
			id := 32767 - i
			m.Write(16+16*i+8, encoding(api.Desc{Len: uint32(i), Id: id, Flags: bits(round == 0, true)})[8:])
			if got, n, is, e := q.Reap(); got != id || n != i || !is || e != api.OK {
				t.Fatalf("Reap: %d, %d, %v, %d, want %d", got, n, is, e, id)
			}
		}
		if q.Free() != 32768 || len(q.Held()) != 0 || q.Back() != (api.Spot{Wrap: round == 1}) {
			t.Errorf("Free %d, Held %v, Back %v", q.Free(), q.Held(), q.Back())
		}
	}
}

// P15.3

// The descriptor at BACK in all states of both bits, for both settings of Wrap
// and with all other bits.
func TestReapUsed(t *testing.T) {
	for _, size := range []int{1, 2, 3, 5} {
		for passed := range 4*size + 1 {
			for _, others := range []int{0, writeBit, 0x7f78, 0x7f7f} {
				b := begun(t, size, passed)
				b.postIs(0, readable(1)...)
				at, wrap := b.w.offset(passed), passed/size%2 == 0
				b.reapIsNone()
				for _, state := range []int{0, availBit, usedBit, availBit + usedBit} {
					if state == availBit || state == usedBit || wrap == (state == 0) {
						b.write(at, encoding(api.Desc{Addr: 8, Len: 3, Flags: others + state}))
						b.reapIsNone()
						// Neither is an id that is not held an error, unless it is used.
						b.write(at, encoding(api.Desc{Addr: 8, Len: 3, Id: 9, Flags: others + state}))
						b.reapIsNone()
					}
				}
				b.write(at, encoding(api.Desc{Addr: 1<<64 - 1, Len: 3, Flags: others + bits(wrap, true)}))
				b.reapIs(0, 3)
				b.reapIsNone()
			}
		}
	}
}

// What is used elsewhere in the ring is not at BACK.
func TestReapOnlyAtBack(t *testing.T) {
	b := begun(t, 4, 1)
	for id := range 4 {
		b.postIs(id, readable(1)...)
	}
	for _, slot := range []int{0, 2, 3} {
		b.write(64+16*slot, encoding(api.Desc{Id: slot, Flags: availBit + usedBit}))
	}
	b.reapIsNone()
	b.write(64+16, encoding(api.Desc{Id: 1, Flags: availBit + usedBit}))
	b.reapIs(1, 0)
	b.reapIs(2, 0)
	b.reapIs(3, 0)
	b.reapIsNone() // slot 0 is used for Wrap true, and BACK has false
	b.write(64, encoding(api.Desc{Len: 7}))
	b.reapIs(0, 7)
}

// Ids that are not held: nothing changes, however often it is tried, and the
// chain can be taken back once the id is right.
func TestReapWrongIds(t *testing.T) {
	for _, size := range []int{1, 4} {
		for _, passed := range []int{0, size - 1, size, 2*size - 1} {
			for _, id := range []int{size - 1, size, size + 1, 255, 256, 32767, 32768, 65534, 65535} {
				b := begun(t, size, passed)
				if id != size-1 {
					b.postIs(0, readable(1)...)
				}
				b.give(id, 5)
				b.reapIsWrong()
				b.tell()
				b.reapIsWrong()
				if len(b.w.held) == 0 {
					b.postIs(0, readable(1)...)
				}
				b.give(0, 6)
				b.dev = b.w.next
				b.reapIs(0, 6)
				b.pass(2 * size)
			}
		}
	}
}

// An id that was held, is so no more.
func TestReapTwice(t *testing.T) {
	b := begun(t, 4, 3)
	for id := range 4 {
		b.postIs(id, readable(1)...)
	}
	b.give(2, 1)
	b.reapIs(2, 1)
	b.give(2, 1)
	b.reapIsWrong()
	b.postIs(2, readable(1)...)
	b.reapIs(2, 1) // held again, so it is right now
}

// Without any chain there is nothing to reap, whatever is used.
func TestReapOfNone(t *testing.T) {
	for passed := range 9 {
		b := begun(t, 4, passed)
		b.reapIsNone()
		for _, id := range []int{0, 1, 3, 4, 65535} {
			b.give(id, 1)
			b.reapIsWrong()
		}
		b.write(b.w.offset(passed), zeros(16))
		if passed/4%2 == 0 {
			b.reapIsNone()
		} else {
			b.reapIsWrong() // zeros are used for Wrap false
		}
	}
}

func TestReapLengths(t *testing.T) {
	for _, n := range []int{0, 1, 255, 256, 1500, 65535, 65536, 1 << 24, 1<<31 - 1, 1 << 31, 1<<32 - 2, 1<<32 - 1} {
		for passed := range 5 {
			b := begun(t, 2, passed)
			b.postIs(0, readable(1)...)
			b.give(0, n)
			b.reapIs(0, n)
		}
	}
}

// orders are all orders of the numbers below n.
func orders(n int) [][]int {
	if n == 0 {
		return [][]int{nil}
	}
	var l [][]int
	for _, o := range orders(n - 1) {
		for at := range n {
			l = append(l, slices.Insert(slices.Clone(o), at, n-1))
		}
	}
	return l
}

// Chains of several parts, returned in each order: BACK advances by the number
// of each id's own slots, over the last slot.
func TestReapOrders(t *testing.T) {
	for _, lengths := range [][]int{{1, 1}, {1, 2}, {3, 1}, {1, 1, 1, 1}, {1, 2, 3}, {3, 2, 1}, {2, 1, 4, 1}, {1, 2, 1, 2}} {
		total := 0
		for _, n := range lengths {
			total += n
		}
		for _, size := range []int{total, total + 1} {
			for passed := range 2 * size {
				for _, order := range orders(len(lengths)) {
					b := begun(t, size, passed)
					for id, n := range lengths {
						b.postIs(id, readable(n)...)
					}
					steps := passed
					for _, id := range order {
						b.reapIsNone()
						b.give(id, 10*id)
						b.reapIs(id, 10*id)
						steps += lengths[id]
						if got := b.q.Back(); got != b.w.spot(steps) {
							t.Errorf("Back %v, want %v", got, b.w.spot(steps))
						}
					}
					b.reapIsNone()
				}
			}
		}
	}
}

// All are returned before any is reaped, several times round.
func TestReapFullRounds(t *testing.T) {
	for _, x := range []struct{ size, length int }{{1, 1}, {2, 1}, {2, 2}, {3, 2}, {4, 4}, {5, 2}, {7, 3}, {64, 64}, {65, 64}, {100, 9}} {
		b := begun(t, x.size, 1)
		for round := range 7 {
			for id := range x.size / x.length {
				b.postIs(id, someParts(x.length, round%(x.length+1))...)
			}
			b.postFails(api.ErrDrvFull, readable(x.size%x.length+1)...)
			ids := b.w.ids()
			if round%2 == 1 {
				slices.Reverse(ids)
			}
			for _, id := range ids {
				b.give(id, round+id)
			}
			for _, id := range ids {
				b.reapIs(id, round+id)
			}
			b.reapIsNone()
			if b.q.Free() != x.size || len(b.q.Held()) > 0 {
				t.Errorf("Free %d, Held %v", b.q.Free(), b.q.Held())
			}
		}
	}
}

// The bytes may change between any two calls: a call uses those that are there,
// and the driver knows itself what it posted.
func TestBytesOfTheTime(t *testing.T) {
	b := begun(t, 4, 2)
	b.postIs(0, readable(3)...)
	b.give(0, 4)
	b.write(64, string(slices.Repeat([]byte{0xff}, 64)))
	b.reapIsWrong()
	b.write(64, zeros(64))
	b.reapIsNone()
	b.write(64+32, encoding(api.Desc{Len: 9, Flags: availBit + usedBit}))
	b.write(64+48, encoding(api.Desc{Len: 8, Flags: availBit + usedBit}))
	b.reapIs(0, 9)
	b.postIs(0, readable(4)...)
	b.write(16, "\x00\x00\x01\x00\x00\x00\x00\x00\x00\x00\x01\x00")
	b.write(24, "\x00\x00\x00\x00")
	b.tellIs(true)
}

// Held is in ascending order, whatever was posted and reaped.
func TestHeldOrder(t *testing.T) {
	r := &numbers{8}
	for _, size := range []int{3, 16, 70} {
		b := begun(t, size, 2)
		for range 200 {
			if r.below(2) == 0 {
				b.post(readable(1 + r.below(3))...)
			} else if ids := b.w.ids(); len(ids) > 0 {
				id := ids[r.below(len(ids))]
				b.give(id, id)
				b.reapIs(id, id)
			}
			if got := b.q.Held(); !slices.IsSorted(got) || len(slices.Compact(got)) != len(b.w.held) {
				t.Errorf("Held %v", got)
			}
		}
	}
}

// P15.4

// Each number of slots to more than twice as many as the ring has, and each
// event: at each position, with both Wraps, outside of the ring, and with the
// Flags that ask for something or nothing. Tell changes what it begins with,
// so each case has a clone.
func TestTellEverywhere(t *testing.T) {
	for _, size := range []int{1, 2, 3, 4} {
		for start := range 2 * size {
			b := begun(t, size, start)
			for range 2*size + 3 {
				for off := range size + 2 {
					for _, wrap := range bools() {
						for _, flags := range []int{0, 1, 2, 3, 65535} {
							c := b.clone()
							c.event(api.Event{Off: off, Wrap: wrap, Flags: flags})
							c.tell()
							c.tellIs(false)
						}
					}
				}
				b.pass(1)
			}
		}
	}
}

// Flags 0: for each slot that was made available; nothing for none.
func TestTellOfAll(t *testing.T) {
	for _, size := range []int{1, 2, 4, 64} {
		for _, start := range []int{0, 1, size - 1, size, 2*size - 1} {
			b := begun(t, size, start)
			b.event(api.Event{Off: 32767, Wrap: true})
			b.tellIs(false)
			for _, n := range []int{1, 2, size, size + 1, 2 * size, 2*size + 1, 3 * size, 4 * size, 5*size + 1} {
				b.pass(n)
				b.tellIs(true)
				b.tellIs(false)
			}
		}
	}
}

// Flags 1 and those above 2: never, also for more than the ring has.
func TestTellOfNone(t *testing.T) {
	for _, flags := range []int{1, 3, 4, 5, 258, 32768, 32770, 65534, 65535} {
		for _, start := range []int{0, 3, 4, 7} {
			b := begun(t, 4, start)
			for off := range 4 {
				for _, wrap := range bools() {
					b.event(api.Event{Off: off, Wrap: wrap, Flags: flags})
					for _, n := range []int{0, 1, 4, 5, 8, 9, 16, 17} {
						b.pass(n)
						b.tellIs(false)
					}
				}
			}
		}
	}
}

// Flags 2: the event among the slots, just before, just behind, and with the
// other Wrap.
func TestTellOfPosition(t *testing.T) {
	for _, size := range []int{1, 2, 3, 8, 100} {
		for _, start := range []int{0, 1, size / 2, size - 1, size, 2*size - 1} {
			for _, n := range []int{1, 2, size - 1, size} {
				if n < 1 || n > size {
					continue
				}
				b := begun(t, size, start)
				b.pass(n)
				at := func(steps int, want bool) {
					t.Helper()
					c := b.clone()
					s := c.w.spot(steps + 2*size)
					c.event(api.Event{Off: s.At, Wrap: s.Wrap, Flags: 2})
					c.tellIs(want)
					c.tellIs(false)
				}
				at(start, true)
				at(start+n-1, true)
				at(start-1, false)
				at(start+n, false)
				at(start+size, false)
				at(start+n-1+size, false)
			}
		}
	}
}

// Flags 2 for more slots than the ring has: always, also for an event outside
// of the ring; for as many as it has, only at a position that was left.
func TestTellOfMore(t *testing.T) {
	for _, size := range []int{1, 2, 3, 8} {
		for _, off := range []int{0, size - 1, size, 1000, 32767} {
			for _, wrap := range bools() {
				b := begun(t, size, 1)
				b.event(api.Event{Off: off, Wrap: wrap, Flags: 2})
				for _, n := range []int{size + 1, 2*size - 1, 2 * size, 2*size + 1, 3 * size, 4 * size, 4*size + 1} {
					if n > size {
						b.pass(n)
						b.tellIs(true)
						b.tellIs(false)
					}
				}
				if off >= size {
					b.pass(size)
					b.tellIs(false)
				}
			}
		}
	}
}

// The next call begins where this one ended, also where it returned false, and
// whatever the event then was.
func TestTellBeginsAnew(t *testing.T) {
	b := begun(t, 4, 0)
	b.event(api.Event{Off: 2, Wrap: true, Flags: 2})
	b.pass(2)
	b.tellIs(false)
	b.event(api.Event{Off: 1, Wrap: true, Flags: 2})
	b.tellIs(false)
	b.event(api.Event{Off: 2, Wrap: true, Flags: 2})
	b.pass(1)
	b.tellIs(true)
	b.event(api.Event{Flags: 1})
	b.pass(1)
	b.tellIs(false)
	b.event(api.Event{})
	b.tellIs(false)
	b.pass(3)
	b.event(api.Event{Flags: 1})
	b.tellIs(false)
	b.event(api.Event{Off: 3, Flags: 2})
	b.pass(2)
	b.tellIs(true)
}

// Without an earlier call it begins at slot 0 with Wrap true.
func TestTellFirst(t *testing.T) {
	for posted, x := range []struct {
		e    api.Event
		want bool
	}{
		{api.Event{}, false},
		{api.Event{Off: 0, Wrap: true, Flags: 2}, true},
		{api.Event{Off: 2, Wrap: true, Flags: 2}, false},
		{api.Event{Off: 0, Wrap: true, Flags: 2}, true},
		{api.Event{Off: 0, Flags: 2}, false},
		{api.Event{Off: 3, Flags: 2}, true},
	} {
		b := over(t, newMemory(t, roomOf(4)), lay(4))
		b.pass(posted)
		b.event(x.e)
		b.tellIs(x.want)
		b.tellIs(false)
	}
}

// A chain counts as many slots as it has. What is returned and reaped makes no
// difference, nor does a Post that is refused.
func TestTellCountsSlots(t *testing.T) {
	b := begun(t, 4, 2)
	b.event(api.Event{Off: 1, Wrap: false, Flags: 2})
	b.postIs(0, readable(3)...)
	b.tellIs(false) // the slots 2, 3 and 0
	b.postFails(api.ErrDrvFull, readable(2)...)
	b.postFails(api.ErrDrvForm)
	b.tellIs(false)
	b.give(0, 0)
	b.reapIs(0, 0)
	b.tellIs(false)
	b.postIs(0, readable(3)...)
	b.tellIs(true) // the slots 1, 2 and 3
	b.event(api.Event{Off: 7, Flags: 2})
	for range 2 {
		b.give(0, 0)
		b.reapIs(0, 0)
		b.postIs(0, readable(3)...)
	}
	b.tellIs(true) // 6 slots of 4
	b.give(0, 0)
	b.event(api.Event{})
	b.tellIs(false)
	b.reapIs(0, 0)
	b.tellIs(false)
}

// It is the device's event that counts, and not the driver's.
func TestTellOfDevice(t *testing.T) {
	b := begun(t, 4, 3)
	b.event(api.Event{Flags: 1})
	b.ask(api.Event{})
	b.pass(1)
	b.tellIs(false)
	b.event(api.Event{})
	b.ask(api.Event{Flags: 1})
	b.pass(1)
	b.tellIs(true)
}

func TestAsk(t *testing.T) {
	for _, x := range []struct {
		e    api.Event
		want string
	}{
		{api.Event{}, "\x00\x00\x00\x00"},
		{api.Event{Wrap: true}, "\x00\x80\x00\x00"},
		{api.Event{Off: 3, Wrap: true, Flags: 2}, "\x03\x80\x02\x00"},
		{api.Event{Off: 32767, Flags: 65535}, "\xff\x7f\xff\xff"},
		{api.Event{Off: 32767, Wrap: true, Flags: 65535}, "\xff\xff\xff\xff"},
		{api.Event{Off: 0x1234, Flags: 0x5678}, "\x34\x12\x78\x56"},
	} {
		b := begun(t, 4, 3)
		b.postIs(0, readable(2)...)
		b.write(12, "abcdefghijkl")
		if e := b.ask(x.e); e != api.OK {
			t.Errorf("Ask(%v): %d", x.e, e)
		}
		if s, _ := b.m.Read(12, 12); s != "abcd"+x.want+"ijkl" {
			t.Errorf("Ask(%v): %x", x.e, s)
		}
		b.ask(api.Event{})
		if s, _ := b.m.Read(12, 12); s != "abcd\x00\x00\x00\x00ijkl" {
			t.Errorf("Ask: %x", s)
		}
		b.tellIs(true)
		b.giveAll()
	}
}

func TestAskWrong(t *testing.T) {
	b := begun(t, 4, 3)
	b.postIs(0, readable(2)...)
	wrongOffs := append(ends(), 32768, 32769, 65535, 65536)
	wrongFlags := append(ends(), 65536, 65537, 1<<17)
	for _, wrap := range bools() {
		for _, off := range wrongOffs {
			for _, flags := range append(wrongFlags, 0, 2, 65535) {
				if e := b.ask(api.Event{Off: off, Wrap: wrap, Flags: flags}); e != api.ErrArg {
					t.Errorf("Ask of %d, %d: %d", off, flags, e)
				}
			}
		}
		for _, flags := range wrongFlags {
			for _, off := range []int{0, 3, 32767} {
				if e := b.ask(api.Event{Off: off, Wrap: wrap, Flags: flags}); e != api.ErrArg {
					t.Errorf("Ask of %d, %d: %d", off, flags, e)
				}
			}
		}
	}
	// An event that the ring doesn't have a slot for may be asked for.
	for _, off := range []int{0, 3, 4, 32767} {
		if e := b.ask(api.Event{Off: off, Flags: 3}); e != api.OK {
			t.Errorf("Ask of %d: %d", off, e)
		}
	}
	b.tellIs(true)
	b.giveAll()
}

// P15.5

// use makes each call, in different states.
func (b *bench) use() {
	b.t.Helper()
	b.tell()
	b.post(readable(1)...)
	b.tell()
	b.reap()
	for _, id := range b.w.ids() {
		b.give(id, id+1)
		b.reap()
	}
	b.ask(api.Event{Off: 1, Wrap: true, Flags: 2})
	b.post(someParts(b.w.free(), 1)...)
	b.post(readable(1)...)
	b.tell()
	b.giveAll()
}

// A clone has the state of its original, in each of its parts.
func TestCloneState(t *testing.T) {
	for _, size := range []int{1, 2, 4, 5} {
		for passed := range 3*size + 1 {
			for taken := 0; taken <= size; taken++ {
				b := over(t, newMemory(t, roomOf(size)), lay(size))
				b.pass(passed)
				if passed%2 == 1 {
					b.tell()
				}
				for range taken {
					b.post(readable(1)...)
				}
				if taken > 2 {
					b.give(1, 3)
					b.reapIs(1, 3)
				}
				if taken > 3 {
					b.give(0, 3) // returned, and not yet reaped
				}
				c := b.clone()
				c.state("Clone")
				b.state("its original")
				c.use()
				b.use()
			}
		}
	}
}

// A clone and its original do not change each other, by any call, nor by the
// bytes that they write.
func TestCloneIsIndependent(t *testing.T) {
	for _, of := range []string{"clone", "original"} {
		b := begun(t, 5, 7)
		b.postIs(0, readable(1)...)
		b.postIs(1, readable(2)...)
		b.tell()
		b.postIs(2, readable(1)...)
		changed, other := b.clone(), b
		if of == "original" {
			changed, other = other, changed
		}
		image := other.m.Image()
		other.m.Log()
		changed.postIs(3, readable(1)...)
		changed.give(1, 7)
		changed.reapIs(1, 7)
		changed.postIs(1, readable(2)...)
		changed.give(2, 0)
		changed.reapIs(2, 0)
		changed.ask(api.Event{Off: 1, Wrap: true, Flags: 2})
		changed.tell()
		if other.m.Image() != image || len(other.m.Log()) > 0 {
			t.Errorf("the %s changes the other's memory", of)
		}
		other.state("the other one of the " + of)
		other.reapIsNone()
		other.tellIs(true)
		other.give(1, 4)
		other.reapIs(1, 4)
		other.postIs(1, readable(3)...)
		other.use()
		changed.state("the " + of)
		changed.use()
	}
}

// A clone of a clone, and a queue that lives on when its clones are used.
func TestClones(t *testing.T) {
	b := begun(t, 3, 2)
	var l []*bench
	for n := range 3 {
		b.postIs(n, readable(1)...)
		l = append(l, b, b.clone())
		b = b.clone()
	}
	for _, c := range l {
		c.state("one of several")
		c.use()
	}
	b.postFails(api.ErrDrvFull, readable(1)...)
	b.giveAll()
}

// R4: what Held hands out is the caller's: no later result changes by it, and
// no later call changes it.
func TestHeldIsTheCallers(t *testing.T) {
	b := begun(t, 4, 3)
	b.postIs(0, readable(1)...)
	b.postIs(1, readable(2)...)
	first, second := b.q.Held(), b.q.Held()
	for i := range first[:cap(first)] {
		first[:cap(first)][i] = -7
	}
	if !slices.Equal(second, []int{0, 1}) {
		t.Errorf("two results share memory: %v", second)
	}
	b.state("Held changed")
	c := b.clone()
	b.postIs(2, readable(1)...)
	b.give(0, 0)
	b.reapIs(0, 0)
	c.state("Held changed")
	if !slices.Equal(second, []int{0, 1}) || first[0] != -7 {
		t.Errorf("later calls change %v, %v", first, second)
	}
	b.giveAll()
}

// P15.6

// out is a chain that the device has taken, and what the driver posted.
type out struct {
	chain api.Chain
	parts []api.Part
}

// both is a driver and a device on the same memory. Each of their calls is
// held against what the driver posted, in order, and the device returned.
type both struct {
	*bench
	d       *devq.Queue
	posted  []out // not taken yet, in order
	taken   []out // not returned yet
	given   []out // not reaped yet, in order
	written []int // to each of given
}

func pair(t *testing.T, size int) *both {
	t.Helper()
	b := over(t, newMemory(t, roomOf(size)), lay(size))
	d, e := devq.New(b.m, b.w.l)
	if e != api.OK {
		t.Fatalf("devq.New: %d", e)
	}
	return &both{bench: b, d: d}
}

// offer posts a chain, if there is room for it.
func (b *both) offer(parts []api.Part) {
	b.t.Helper()
	if id, e := b.post(parts...); e == api.OK {
		b.posted = append(b.posted, out{api.Chain{Id: id, Count: len(parts), Parts: parts}, parts})
	}
}

// take takes the chain that was posted first, and nothing if there is none.
func (b *both) take() {
	b.t.Helper()
	c, is, e := b.d.Next()
	if e != api.OK || is != (len(b.posted) > 0) {
		b.t.Fatalf("Next: %v, %v, %d, with %d posted", c, is, e, len(b.posted))
	}
	if !is {
		return
	}
	want := b.posted[0]
	if c.Id != want.chain.Id || c.Count != want.chain.Count || !slices.Equal(c.Parts, want.parts) {
		b.t.Errorf("Next: %v, want %v", c, want)
	}
	b.posted = b.posted[1:]
	b.taken = append(b.taken, out{c, want.parts})
}

// giveBack returns one of the chains that were taken.
func (b *both) giveBack(which, written int) {
	b.t.Helper()
	x := b.taken[which]
	if e := b.d.Done(x.chain.Id, x.chain.Count, written); e != api.OK {
		b.t.Fatalf("Done: %d", e)
	}
	b.taken = slices.Delete(slices.Clone(b.taken), which, which+1)
	b.given = append(b.given, x)
	b.written = append(b.written, written)
}

// collect reaps the chain that was returned first, and nothing if there is none.
func (b *both) collect() {
	b.t.Helper()
	id, n, is, e := b.reap()
	if e != api.OK || is != (len(b.given) > 0) {
		b.t.Fatalf("Reap: %d, %d, %v, %d, with %d returned", id, n, is, e, len(b.given))
	}
	if !is {
		return
	}
	if id != b.given[0].chain.Id || n != b.written[0] {
		b.t.Errorf("Reap: %d, %d, want %d, %d", id, n, b.given[0].chain.Id, b.written[0])
	}
	b.given, b.written = b.given[1:], b.written[1:]
}

// finish takes, returns and reaps all that there is.
func (b *both) finish() {
	b.t.Helper()
	for len(b.posted) > 0 {
		b.take()
	}
	for len(b.taken) > 0 {
		b.giveBack(len(b.taken)/2, len(b.taken))
	}
	for len(b.given) > 0 {
		b.collect()
	}
	b.take()
	b.collect()
	if b.q.Free() != b.w.l.Size || len(b.q.Held()) != 0 || b.d.Out() != 0 || b.d.Broken() {
		b.t.Errorf("Free %d, Held %v, Out %d, Broken %v", b.q.Free(), b.q.Held(), b.d.Out(), b.d.Broken())
	}
}

// Chains are returned and reaped in the order in which they were posted, and in
// others, many times round.
func TestBothInOrder(t *testing.T) {
	for _, size := range []int{1, 2, 3, 4, 7, 64, 65, 130} {
		for _, length := range []int{1, 2, 3, 63, 64} {
			if length > size {
				continue
			}
			for _, which := range []string{"first", "last", "middle"} {
				b := pair(t, size)
				for round := range 5 {
					for range size/length + 1 { // one more than there is room for
						b.offer(someParts(length, round%(length+1)))
					}
					for range size / length {
						b.take()
					}
					b.take()
					b.giveBackAll(which, round)
					for range size / length {
						b.collect()
					}
					b.finish()
				}
			}
		}
	}
}

// giveBackAll returns all chains: each time the one that was taken first, last,
// or between them.
func (b *both) giveBackAll(which string, written int) {
	b.t.Helper()
	for n := len(b.taken); n > 0; n = len(b.taken) {
		at := map[string]int{"first": 0, "last": n - 1, "middle": n / 2}[which]
		b.giveBack(at, written*n)
	}
}

// anyParts are parts of a chain that may be posted, of which some are writable.
func anyParts(r *numbers, n, memory int) []api.Part {
	l := make([]api.Part, n)
	writable := r.below(n + 1)
	for i := range l {
		at := r.below(memory)
		l[i] = api.Part{At: at, N: 1 + r.below(memory-at), Write: i >= n-writable}
	}
	return l
}

// Both make their calls in any order.
func TestBothAnyOrder(t *testing.T) {
	for seed := range uint32(400) {
		r := &numbers{seed}
		size := []int{1, 2, 3, 4, 5, 8, 13, 64, 100}[r.below(9)]
		longest := []int{1, 2, 5, 66}[r.below(4)]
		b := pair(t, size)
		for range 150 {
			switch r.below(8) {
			case 0, 1, 2:
				b.offer(anyParts(r, 1+r.below(min(size+1, longest)), b.m.Size()))
			case 3, 4:
				b.take()
			case 5:
				if n := len(b.taken); n > 0 {
					b.giveBack(r.below(n), []int{0, 1, r.below(1 << 24), 1<<32 - 1}[r.below(4)])
				}
			case 6:
				b.collect()
			case 7:
				b.tell()
			}
		}
		b.finish()
	}
}

// Each side asks for the next step of the other one: it is told of that step,
// and of none before it.
func TestBothTell(t *testing.T) {
	for _, size := range []int{1, 2, 3, 5} {
		b := pair(t, size)
		next := api.Spot{Wrap: true}
		for round := range 5 * size {
			if e := b.d.Ask(api.Event{Off: next.At, Wrap: next.Wrap, Flags: 2}); e != api.OK {
				t.Fatalf("Ask: %d", e)
			}
			back := b.q.Back()
			if e := b.ask(api.Event{Off: back.At, Wrap: back.Wrap, Flags: 2}); e != api.OK {
				t.Fatalf("Ask: %d", e)
			}
			b.tellIs(false)
			b.offer(readable(1 + round%size))
			b.tellIs(true)
			b.tellIs(false)
			next = b.w.spot(b.w.next)
			b.take()
			if b.d.Tell() {
				t.Error("the device tells what it has not returned")
			}
			b.giveBack(0, 3)
			if !b.d.Tell() || b.d.Tell() {
				t.Error("the device does not tell once what it has returned")
			}
			b.collect()
		}
		b.finish()
	}
}

// Both sides are cloned together, at any time.
func TestBothCloned(t *testing.T) {
	for seed := range uint32(40) {
		r := &numbers{seed}
		b := pair(t, 1+r.below(6))
		for range 30 {
			b.offer(anyParts(r, 1+r.below(3), b.m.Size()))
			if r.below(2) == 0 {
				b.take()
			}
			if n := len(b.taken); n > 0 && r.below(2) == 0 {
				b.giveBack(r.below(n), r.below(9))
			}
			if r.below(2) == 0 {
				b.collect()
			}
			c := *b
			c.bench = b.clone()
			c.d = b.d.Clone(c.m)
			c.finish()
		}
		b.finish()
	}
}

// The whole

// anyLay is a valid layout in a memory of so many bytes; its parts may overlap.
func anyLay(r *numbers, memory int) api.Lay {
	size := 1 + r.below(min(memory/16, 1+r.below(80)))
	return api.Lay{
		Ring: 16 * r.below((memory-16*size)/16+1),
		Size: size,
		Drv:  4 * r.below(memory/4),
		Dev:  4 * r.below(memory/4),
	}
}

// anyEvent is one of which the Flags are often 0 or 2.
func anyEvent(r *numbers, size int) api.Event {
	return api.Event{
		Off:   r.below(size + 1),
		Wrap:  r.below(2) == 0,
		Flags: []int{0, 1, 2, 2, 2, 3, r.below(65536)}[r.below(7)],
	}
}

// anyCall makes one, of which most are valid.
func (b *bench) anyCall(r *numbers) {
	b.t.Helper()
	switch r.below(12) {
	case 0, 1, 2:
		b.post(anyParts(r, 1+r.below(4), b.m.Size())...)
	case 3:
		l := anyParts(r, 1+r.below(4), b.m.Size())
		p := &l[r.below(len(l))]
		*p = api.Part{At: p.At - r.below(3), N: p.N + r.below(3) - 1, Write: !p.Write}
		b.post(l...)
	case 4, 5:
		if ids := b.w.ids(); len(ids) > 0 {
			b.dev = b.w.back
			b.give(ids[r.below(len(ids))], r.below(1<<24))
		}
		b.reap()
	case 6:
		b.write(b.w.offset(b.w.back)+12, r.bytes(4))
		b.reap()
	case 7:
		b.reap()
	case 8, 9:
		b.tell()
	case 10:
		b.ask(anyEvent(r, b.w.l.Size))
	case 11:
		b.event(anyEvent(r, b.w.l.Size))
	}
}

// Any layout, any calls, and any bytes that a device writes: each call is held
// against the model, with all bytes.
func TestAnyDevice(t *testing.T) {
	reaped := 0
	for seed := range uint32(1000) {
		r := &numbers{seed}
		memory := 64 + r.below(1200)
		b := over(t, newMemory(t, memory), apart(r, memory))
		for range 50 {
			if r.below(9) == 0 {
				at := r.below(memory)
				b.write(at, r.bytes(min(memory-at, 1+r.below(40))))
			}
			b.anyCall(r)
		}
		reaped += b.w.back
	}
	if reaped < 1000 {
		t.Errorf("%d slots reaped", reaped)
	}
}

// apart is a layout in which nothing overlaps, if there is one in the memory
// that is found soon, so that a Post leaves the events as they were.
func apart(r *numbers, memory int) api.Lay {
	for range 20 {
		l := anyLay(r, memory)
		end := l.Ring + 16*l.Size
		inRing := func(at int) bool { return at >= l.Ring && at < end }
		if !inRing(l.Drv) && !inRing(l.Dev) && l.Drv != l.Dev {
			return l
		}
	}
	return api.Lay{Ring: 16, Size: 1, Drv: 0, Dev: 4}
}

// What a layout has over each other are bytes like others: a call uses those
// that are there.
func TestOverlappingLay(t *testing.T) {
	for seed := range uint32(300) {
		r := &numbers{seed}
		memory := 64 + r.below(300)
		b := over(t, newMemory(t, memory), anyLay(r, memory))
		for range 30 {
			b.anyCall(r)
		}
	}
	b := over(t, newMemory(t, 1024), api.Lay{Ring: 0, Size: 2, Drv: 16, Dev: 16})
	b.postIs(0, api.Part{At: 0x102, N: 1}, api.Part{At: 0x20008 % 1024, N: 1})
	b.tellIs(true) // the event is the beginning of the second address, Off 8 and Flags 0
	b.ask(api.Event{Off: 7, Flags: 9})
	if s, _ := b.m.Read(16, 8); s != "\x07\x00\x09\x00\x00\x00\x00\x00" {
		t.Errorf("Ask: %x", s)
	}
}

// R5: earlier calls, those that return errors among them, make no difference.
func TestAgain(t *testing.T) {
	for range 3 {
		m := filled(t, 1024)
		checkWrongLay(t, m, lay(65))
		b := over(t, m, lay(4))
		b.postFails(api.ErrDrvForm)
		b.postIs(0, readable(2)...)
		b.postFails(api.ErrDrvFull, readable(3)...)
		b.postIs(1, readable(1)...)
		b.ask(api.Event{Off: -1})
		b.tellIs(true)
		b.give(9, 1)
		b.reapIsWrong()
		b.give(1, 8)
		b.reapIs(1, 8)
		b.reapIsNone()
	}
}
