package addr_test

import (
	"fmt"
	"math"
	"net"
	"strings"
	"testing"

	"aqueduct/addr"
	"aqueduct/api"
)

const (
	example     = "\x12\x34\x56\x78\x9a\xbc"
	exampleText = "12:34:56:78:9a:bc"
	broadcast   = "\xff\xff\xff\xff\xff\xff"
)

func checkParse(t *testing.T, s, want string) {
	t.Helper()
	if mac, e := addr.Parse(s); mac != want || e != api.OK {
		t.Errorf("Parse(%q): %q, %d, want %q", s, mac, e, want)
	}
}

func checkNoText(t *testing.T, s string) {
	t.Helper()
	if mac, e := addr.Parse(s); mac != "" || e != api.ErrAddrText {
		t.Errorf("Parse(%q): %q, %d, want ErrAddrText", s, mac, e)
	}
}

func checkPrint(t *testing.T, mac, want string) {
	t.Helper()
	if s, e := addr.Print(mac); s != want || e != api.OK {
		t.Errorf("Print(%q): %q, %d, want %q", mac, s, e, want)
	}
}

func checkKind(t *testing.T, mac string, want int) {
	t.Helper()
	if k := addr.Kind(mac); k != want {
		t.Errorf("Kind(%q): %d, want %d", mac, k, want)
	}
}

func checkBy(t *testing.T, mac string, want int) {
	t.Helper()
	if n := addr.By(mac); n != want {
		t.Errorf("By(%q): %d, want %d", mac, n, want)
	}
}

// with is s with byte i replaced by c.
func with(s string, i int, c byte) string {
	b := []byte(s)
	b[i] = c
	return string(b)
}

// scattered has n bytes without a pattern.
func scattered(n int, seed uint32) string {
	b := make([]byte, n)
	for i := range b {
		seed = seed*1664525 + 1013904223
		b[i] = byte(seed >> 24)
	}
	return string(b)
}

// wrongSizes are byte strings that don't have six bytes.
func wrongSizes() []string {
	all := []string{"", "\xff\xff\xff\xff\xff", broadcast + "\xff", "\x01\x00\x00\x00\x00", "\x01\x00\x00\x00\x00\x00\x00", exampleText, "äöüäöü"}
	for n := range 20 {
		if n != 6 {
			all = append(all, scattered(n, 7), strings.Repeat("\x00", n), strings.Repeat("\x02", n))
		}
	}
	return append(all, strings.Repeat("a", 1<<16))
}

// P5.1

func TestParseExamples(t *testing.T) {
	checkParse(t, "02:61:71:00:00:05", "\x02\x61\x71\x00\x00\x05")
	checkParse(t, "01:00:5e:00:00:01", "\x01\x00\x5e\x00\x00\x01")
	checkParse(t, exampleText, example)
	checkParse(t, "00:00:00:00:00:00", "\x00\x00\x00\x00\x00\x00")
	checkParse(t, "ff:ff:ff:ff:ff:ff", broadcast)
	checkParse(t, "de:f0:0f:ed:cb:a9", "\xde\xf0\x0f\xed\xcb\xa9")
	checkNoText(t, "02:61:71:00:00:5")
}

func TestPrintExamples(t *testing.T) {
	checkPrint(t, addr.Port(5), "02:61:71:00:00:05")
	checkPrint(t, example, exampleText)
	checkPrint(t, "\x00\x00\x00\x00\x00\x00", "00:00:00:00:00:00")
	checkPrint(t, broadcast, "ff:ff:ff:ff:ff:ff")
	checkPrint(t, "abcdef", "61:62:63:64:65:66")
}

func TestEveryByteAtEveryPlace(t *testing.T) {
	for place := range 6 {
		for c := range 256 {
			mac := with(example, place, byte(c))
			text := exampleText[:3*place] + fmt.Sprintf("%02x", c) + exampleText[3*place+2:]
			checkPrint(t, mac, text)
			checkParse(t, text, mac)
		}
	}
}

func TestScatteredAddresses(t *testing.T) {
	for seed := range uint32(1000) {
		mac := scattered(6, seed)
		text := net.HardwareAddr(mac).String()
		checkPrint(t, mac, text)
		checkParse(t, text, mac)
	}
}

func TestPrintWrongSizes(t *testing.T) {
	for _, mac := range wrongSizes() {
		if s, e := addr.Print(mac); s != "" || e != api.ErrArg {
			t.Errorf("Print(%q): %q, %d, want ErrArg", mac, s, e)
		}
	}
}

// Every text that differs in one byte from an address's is one only if that
// byte is a digit for a digit.
func TestParseOneOtherByte(t *testing.T) {
	for place := range len(exampleText) {
		for c := range 256 {
			text := with(exampleText, place, byte(c))
			digit := '0' <= c && c <= '9' || 'a' <= c && c <= 'f'
			switch {
			case c == int(exampleText[place]):
				checkParse(t, text, example)
			case place%3 != 2 && digit:
				mac, err := net.ParseMAC(text)
				if err != nil {
					t.Fatal(err)
				}
				checkParse(t, text, string(mac))
			default:
				checkNoText(t, text)
			}
		}
	}
}

// A text with any byte put in, and one with any byte left out, are none.
func TestParseByteTooManyOrTooFew(t *testing.T) {
	for place := range len(exampleText) + 1 {
		for c := range 256 {
			checkNoText(t, exampleText[:place]+string([]byte{byte(c)})+exampleText[place:])
		}
		if place < len(exampleText) {
			checkNoText(t, exampleText[:place]+exampleText[place+1:])
		}
	}
}

func TestParsePartsOfText(t *testing.T) {
	for n := range len(exampleText) {
		checkNoText(t, exampleText[:n])
		checkNoText(t, exampleText[len(exampleText)-n:])
		checkNoText(t, exampleText+exampleText[:n+1])
	}
}

func TestParseNoText(t *testing.T) {
	for _, s := range []string{
		"",
		":", ":::::", "0", "00",
		example, broadcast,
		"0:0:0:0:0:0",
		"1:34:56:78:9a:bc", "12:34:56:78:9a:b", "12:3:56:78:9a:bc",
		"012:34:56:78:9a:bc", "012:34:56:78:9a:b", "1:234:56:78:9a:bc", "12:34:56:78:9:abc",
		"12:34:56:78:9a", "12:34:56:78:9a:bc:de", "12:34:56:78:9a:", "12:34:56:78:9a::bc", "12::56:78:9a:bc",
		"12:34:56:78:9A:BC", "12:34:56:78:9A:bc", "12:34:56:78:9a:bC", "FF:FF:FF:FF:FF:FF",
		"12-34-56-78-9a-bc", "12.34.56.78.9a.bc", "12 34 56 78 9a bc", "12;34;56;78;9a;bc", "12/34/56/78/9a/bc",
		"12\x0034\x0056\x0078\x009a\x00bc", "12:34-56:78:9a:bc", "12:34:56:78:9a-bc", "1234.5678.9abc",
		"123456789abc", "12:3456789abc", "12034056078090b0c", "123456789abcdef01",
		":12:34:56:78:9a:bc", "12:34:56:78:9a:bc:", ":2:34:56:78:9a:bc", "12:34:56:78:9a:b:", ":12:34:56:78:9a:b", "2:34:56:78:9a:bc:",
		"+1:34:56:78:9a:bc", "-1:34:56:78:9a:bc", "12:34:56:78:9a:+c", "12:34:56:78:9a:-c", "12:34:56:78:9a:b-",
		" 12:34:56:78:9a:bc", "12:34:56:78:9a:bc ", " 2:34:56:78:9a:bc", "12:34:56:78:9a:b ", "12: 4:56:78:9a:bc", "12:34:56:78:9a:bc\n", "12:34:56:78:9a:b\n",
		"1g:34:56:78:9a:bc", "12:34:56:78:9a:bg", "12:34:56:78:9a:bz", "0x:34:56:78:9a:bc", "12:34:56:78:9a:bo", "12:34:56:78:9a:bl", "1_:34:56:78:9a:bc",
		"`2:34:56:78:9a:bc", "/2:34:56:78:9a:bc", "12:34:56:78:9a:b@",
		"0x12:0x34:0x56:78", "0x123456789abcdef",
	} {
		checkNoText(t, s)
	}
}

// Runes that look like digits, or whose lowest bits are a digit's, are none,
// nor are their parts and bytes that are part of no rune.
func TestParseBytesFrom128(t *testing.T) {
	for _, s := range []string{
		"é:34:56:78:9a:bc", "12:34:56:78:9a:é", "12:34:é:78:9a:bc",
		"1é34:56:78:9a:bc", "12é4:56:78:9a:bc", "12:34:56:78:9aé0",
		"\xc3\xa9:34:56:78:9a:bc", "\xc3", "1\xc3:34:56:78:9a:bc", "12\xc334:56:78:9a:bc", "12:34:56:78:9a:b\xc3", "12:34:56:78:9a:\xa9c",
		"12:34:56:78:9a:\xff\xff", "12:34:56:78:9a:b\x80", "12:34:56:78:9a:b\xe3", "\xb12:34:56:78:9a:bc", "12\xba34:56:78:9a:bc",
		"1２:34:56:78:9a:bc", "１２:34:56:78:9a:bc", "12:34:56:78:9a:b１", "12：34:56:78:9a:bc", "١٢:34:56:78:9a:bc",
		"12:34:56:78:9a:ı", "12:34:56:78:9a:Āa", "12:34:56:78:9ạ:bc", "š:34:56:78:9a:bc",
		"12:34:56:78:9a:�", "12:34:56:78:9a\U0001f600", "\U000100302:34:56:78:9a",
		"１２：３４：５６：７８：９ａ：ｂｃ",
		strings.Repeat("é", 6), strings.Repeat("é", 17), strings.Repeat("é", 8) + "0", strings.Repeat("\x80", 17), strings.Repeat("\xff", 17), strings.Repeat("\xb1", 17),
	} {
		checkNoText(t, s)
	}
}

func TestParseLong(t *testing.T) {
	checkNoText(t, strings.Repeat("a", 1<<16))
	checkNoText(t, strings.Repeat("12:", 1<<16)+"12")
}

// P5.2

func TestKindExamples(t *testing.T) {
	mac, e := addr.Parse("01:00:5e:00:00:01")
	if e != api.OK {
		t.Fatal(e)
	}
	checkKind(t, mac, api.AddrMany)
	checkKind(t, broadcast, api.AddrAll)
	checkKind(t, "\x00\x00\x00\x00\x00\x00", api.AddrOne)
	checkKind(t, "\x02\x01\x01\x01\x01\x01", api.AddrOne)
	checkKind(t, "\x33\x33\x00\x00\x00\x01", api.AddrMany)
}

func TestKindWrongSizes(t *testing.T) {
	for _, mac := range wrongSizes() {
		checkKind(t, mac, api.AddrNone)
	}
}

// Six bytes of 255 with one other byte are for many, unless that byte is even
// and the first one.
func TestKindNearlyAll(t *testing.T) {
	for place := range 6 {
		for c := range 256 {
			want := api.AddrMany
			switch {
			case c == 255:
				want = api.AddrAll
			case place == 0 && c%2 == 0:
				want = api.AddrOne
			}
			checkKind(t, with(broadcast, place, byte(c)), want)
		}
	}
}

// The first byte decides, whatever the others are.
func TestKindFirstByte(t *testing.T) {
	for c := range 256 {
		want := api.AddrOne
		if c%2 == 1 {
			want = api.AddrMany
		}
		for _, rest := range []string{"\x00\x00\x00\x00\x00", "\x01\x01\x01\x01\x01", "\x02\x02\x02\x02\x02", "\xff\xff\xff\xff\xfe", scattered(5, uint32(c))} {
			checkKind(t, string([]byte{byte(c)})+rest, want)
		}
	}
}

// P5.3

func TestPorts(t *testing.T) {
	for n := range 16 {
		want := string([]byte{2, 0x61, 0x71, 0, 0, byte(n)})
		if mac := addr.Port(n); mac != want {
			t.Errorf("Port(%d): %q, want %q", n, mac, want)
		}
		checkBy(t, want, n)
	}
}

func TestNoPorts(t *testing.T) {
	for _, n := range []int{-1, 16, -2, -15, -16, -256, -255, 17, 31, 32, 127, 128, 255, 256, 257, 261, 1 << 16, 1 << 32, 1<<32 + 5, -1 << 32, math.MaxInt, math.MaxInt - 1, math.MinInt, math.MinInt + 1, math.MinInt + 5} {
		if mac := addr.Port(n); mac != "" {
			t.Errorf("Port(%d): %q, want nothing", n, mac)
		}
	}
}

// An address with one other byte is a port's only if that is the last byte,
// and below 16.
func TestByOneOtherByte(t *testing.T) {
	for n := range 16 {
		mac := string([]byte{2, 0x61, 0x71, 0, 0, byte(n)})
		for place := range 6 {
			for c := range 256 {
				want := -1
				switch {
				case c == int(mac[place]):
					want = n
				case place == 5 && c < 16:
					want = c
				}
				checkBy(t, with(mac, place, byte(c)), want)
			}
		}
	}
}

func TestByOtherSizes(t *testing.T) {
	checkBy(t, "", -1)
	for n := range 16 {
		mac := string([]byte{2, 0x61, 0x71, 0, 0, byte(n)})
		for size := range 6 {
			checkBy(t, mac[:size], -1)
			checkBy(t, mac[size+1:], -1)
		}
		for c := range 256 {
			more := string([]byte{byte(c)})
			checkBy(t, mac+more, -1)
			checkBy(t, more+mac, -1)
		}
		checkBy(t, mac+mac, -1)
	}
	for _, mac := range wrongSizes() {
		checkBy(t, mac, -1)
	}
}

func TestByOtherAddresses(t *testing.T) {
	for _, mac := range []string{broadcast, example, "\x00\x00\x00\x00\x00\x00", "\x00\x00\x00\x00\x00\x05", "\x05\x00\x00\x71\x61\x02", "02:61:71:00:00:05"} {
		checkBy(t, mac, -1)
	}
	for seed := range uint32(1000) {
		checkBy(t, scattered(6, seed), -1)
	}
}

// P5.4

func TestParseOfPrint(t *testing.T) {
	for seed := range uint32(2000) {
		mac := scattered(6, seed)
		s, e := addr.Print(mac)
		if e != api.OK {
			t.Fatalf("Print(%q): %d", mac, e)
		}
		checkParse(t, s, mac)
	}
}

func TestPrintOfParse(t *testing.T) {
	const digits = "0123456789abcdef"
	for seed := range uint32(2000) {
		text := []byte(exampleText)
		for i, c := range []byte(scattered(len(text), seed)) {
			if i%3 != 2 {
				text[i] = digits[c>>4]
			}
		}
		mac, e := addr.Parse(string(text))
		if e != api.OK {
			t.Fatalf("Parse(%q): %d", text, e)
		}
		checkPrint(t, mac, string(text))
	}
}

// What Parse takes although it isn't what Print returns would be a second
// text of an address.
func TestOneTextOfAddress(t *testing.T) {
	for place := range len(exampleText) {
		for c := range 256 {
			text := with(exampleText, place, byte(c))
			if mac, e := addr.Parse(text); e == api.OK {
				checkPrint(t, mac, text)
			}
		}
	}
}

func TestPortsAreDistinct(t *testing.T) {
	seen := map[string]int{}
	for n := range api.MaxPorts {
		mac := addr.Port(n)
		checkKind(t, mac, api.AddrOne)
		if m, ok := seen[mac]; ok {
			t.Errorf("Port(%d) and Port(%d) are both %q", m, n, mac)
		}
		seen[mac] = n
	}
}
