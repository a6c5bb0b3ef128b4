package packet_test

import (
	"math/rand"
	"strings"
	"testing"
	"unsafe"

	"portico/api"
	"portico/packet"
)

// sum adds up words of 16 bits in ones' complement.
func sum(s string) int {
	n := 0
	for i := 0; i < len(s); i += 2 {
		n += int(s[i])<<8 | int(s[i+1])
	}
	for n > 65535 {
		n = n%65536 + n/65536
	}
	return n
}

// summed sets the checksum of a header of so many bytes right.
func summed(s string, header int) string {
	b := []byte(s)
	b[10], b[11] = 0, 0
	n := 65535 - sum(string(b[:header]))
	b[10], b[11] = byte(n>>8), byte(n)
	return string(b)
}

// plain is a header without options, of a packet of 28 bytes: TTL 64, protocol 17; without a sum.
const plain = "\x45\x00\x00\x1c\x12\x34\x00\x00\x40\x11\x00\x00\x0a\x01\x02\x03\xc0\xa8\xfe\xff"

// with sets a byte.
func with(s string, at int, b byte) string { return s[:at] + string([]byte{b}) + s[at+1:] }

func wantRead(t *testing.T, bytes string, want bool) packet.Packet {
	t.Helper()
	p, right := packet.Read(bytes)
	if right != want {
		t.Errorf("Read(%q): %t, want %t", bytes, right, want)
	}
	if !right && p != (packet.Packet{}) {
		t.Errorf("Read(%q) = %+v beside false", bytes, p)
	}
	return p
}

func wantKey(t *testing.T, bytes string, want api.Key) {
	t.Helper()
	if got := wantRead(t, bytes, true).Key(); got != want {
		t.Errorf("Key of %q = %v, want %v", bytes, got, want)
	}
}

func TestRightPackets(t *testing.T) {
	wantRead(t, summed(plain, 20)+"12345678", true)
	wantRead(t, summed(plain, 20)+"12345678"+strings.Repeat("behind", 50), true)
	wantRead(t, summed(with(plain, 3, 20), 20), true)
	wantRead(t, summed(with(plain, 3, 20), 20)+"behind", true)
	for words := 5; words <= 15; words++ {
		p := with(with(plain, 0, byte(4<<4|words)), 3, byte(words*4)) + strings.Repeat("op", words*2-10)
		wantRead(t, summed(p, words*4), true)
	}
}

func TestAHeaderOfLessThanFiveWords(t *testing.T) {
	for words := range 5 {
		p := with(plain, 0, byte(4<<4|words)) + "12345678"
		wantRead(t, summed(p, max(words*4, 12)), false)
		wantRead(t, summed(p, 20), false)
	}
}

func TestVersions(t *testing.T) {
	for v := range 16 {
		p := with(plain, 0, byte(v<<4|5)) + "12345678"
		wantRead(t, summed(p, 20), v == 4)
	}
}

func TestTotalLengths(t *testing.T) {
	for n := range 65536 {
		p := with(with(plain, 2, byte(n>>8)), 3, byte(n))
		wantRead(t, summed(p, 20)+"12345678", n >= 20 && n <= 28)
	}
	// The header has options: the least total length is its own.
	for n := range 40 {
		p := with(with(plain, 0, 0x47), 3, byte(n)) + "options!12345678"
		wantRead(t, summed(p, 28), n >= 28 && n <= 36)
	}
}

func TestPacketsThatAreCutOff(t *testing.T) {
	whole := summed(plain, 20) + "12345678"
	for n := range len(whole) {
		wantRead(t, whole[:n], false)
	}
	options := summed(with(with(plain, 0, 0x4f), 3, 60)+strings.Repeat("o", 40), 60)
	for n := range len(options) {
		wantRead(t, options[:n], false)
	}
	wantRead(t, options, true)
}

// One checksum is right alone, but where it is all bits or none: these are the same in ones' complement.
func TestSums(t *testing.T) {
	whole := summed(plain, 20) + "12345678"
	for n := range 65536 {
		p := whole[:10] + string([]byte{byte(n >> 8), byte(n)}) + whole[12:]
		wantRead(t, p, p == whole)
	}
	id := 65535 - sum(plain[:4]+"\x00\x00"+plain[6:])
	none := plain[:4] + string([]byte{byte(id >> 8), byte(id)}) + plain[6:] + "12345678"
	for n := range 65536 {
		p := none[:10] + string([]byte{byte(n >> 8), byte(n)}) + none[12:]
		wantRead(t, p, n == 0 || n == 65535)
	}
}

// Options are part of the sum; what stands behind the header is not.
func TestWhatTheSumIsOf(t *testing.T) {
	p := summed(with(with(plain, 0, 0x46), 3, 32)+"opts", 24) + "12345678"
	wantRead(t, p, true)
	for at := range 24 {
		for bit := range 8 {
			wantRead(t, with(p, at, p[at]^1<<bit), false)
		}
	}
	for at := 24; at < len(p); at++ {
		wantRead(t, with(p, at, p[at]^1), true)
	}
}

const (
	from = 10<<24 | 1<<16 | 2<<8 | 3
	to   = 192<<24 | 168<<16 | 254<<8 | 255
)

// ports are 513 and 65534.
const ports = "\x02\x01\xff\xfe"

func TestKeysOfProtocols(t *testing.T) {
	for protocol := range 256 {
		want := api.Key{from, to, protocol, 0, 0}
		if protocol == 6 || protocol == 17 {
			want[3], want[4] = 513, 65534
		}
		wantKey(t, summed(with(plain, 9, byte(protocol)), 20)+ports+"data", want)
	}
}

func TestKeysOfFragments(t *testing.T) {
	for n := range 65536 {
		p := with(with(plain, 6, byte(n>>8)), 7, byte(n))
		want := api.Key{from, to, 17, 0, 0}
		if n%8192 == 0 {
			want[3], want[4] = 513, 65534
		}
		wantKey(t, summed(p, 20)+ports+"data", want)
	}
}

// Ports stand within the total length, or not at all.
func TestKeysOfShortPackets(t *testing.T) {
	for total := 20; total <= 28; total++ {
		want := api.Key{from, to, 17, 0, 0}
		if total >= 24 {
			want[3], want[4] = 513, 65534
		}
		wantKey(t, summed(with(plain, 3, byte(total)), 20)+ports+"data", want)
	}
}

func TestKeysBehindOptions(t *testing.T) {
	for total := 28; total <= 36; total++ {
		p := summed(with(with(plain, 0, 0x47), 3, byte(total))+"options!", 28) + ports + "data"
		want := api.Key{from, to, 17, 0, 0}
		if total >= 32 {
			want[3], want[4] = 513, 65534
		}
		wantKey(t, p, want)
	}
}

func TestKeysAtTheirEnds(t *testing.T) {
	p := plain[:12] + strings.Repeat("\xff", 8)
	wantKey(t, summed(p, 20)+strings.Repeat("\xff", 8), api.Key{1<<32 - 1, 1<<32 - 1, 17, 65535, 65535})
	p = plain[:12] + strings.Repeat("\x00", 8)
	wantKey(t, summed(p, 20)+strings.Repeat("\x00", 8), api.Key{0, 0, 17, 0, 0})
}

// P7: one hop on it is right, its TTL is one less, and nothing else but the checksum is another.
func TestHop(t *testing.T) {
	r := rand.New(rand.NewSource(3))
	for range 20000 {
		words := 5 + r.Intn(11)
		b := make([]byte, words*4+r.Intn(10))
		r.Read(b)
		b[0], b[2], b[3], b[8] = byte(4<<4|words), 0, byte(words*4), byte(1+r.Intn(255))
		before := summed(string(b), words*4)
		p := wantRead(t, before, true)
		after := p.Hop()
		if hopped := wantRead(t, after, true); hopped.TTL() != p.TTL()-1 || int(before[8]) != p.TTL() {
			t.Fatalf("TTL %d, then %d", p.TTL(), hopped.TTL())
		}
		if after[:8]+after[9:10]+after[12:] != before[:8]+before[9:10]+before[12:] {
			t.Fatalf("%q became %q", before, after)
		}
	}
}

// The checksum is the old one and 256 more; what runs over is added again.
func TestChecksumsOfAHop(t *testing.T) {
	for n := range 65536 {
		// The identification makes up for whatever the checksum is.
		b := []byte(with(plain, 3, 20))
		b[4], b[5], b[10], b[11] = 0, 0, byte(n>>8), byte(n)
		id := 65535 - sum(string(b))
		b[4], b[5] = byte(id>>8), byte(id)
		after := wantRead(t, string(b), true).Hop()
		want := n + 256
		if want > 65535 {
			want -= 65535
		}
		if got := int(after[10])<<8 | int(after[11]); got != want {
			t.Fatalf("checksum %d became %d, want %d", n, got, want)
		}
		wantRead(t, after, true)
	}
}

func TestHopIsNewMemory(t *testing.T) {
	p := summed(plain, 20) + "12345678"
	kept := strings.Clone(p)
	hopped := wantRead(t, p, true).Hop()
	if p != kept || unsafe.StringData(p) == unsafe.StringData(hopped) {
		t.Error("the packet that came in was changed")
	}
}
