// Package packet: IPv4 packets, and what their bytes tell.
package packet

import "portico/api"

// Where the parts of a packet stand.
const (
	totalAt       = 2
	fragmentAt    = 6
	ttlAt         = 8
	protocolAt    = 9
	sumAt         = 10
	sourceAt      = 12
	destinationAt = 16
)

const (
	version = 4
	// leastHeader is how many bytes a header has without options.
	leastHeader = 20
	// portsLength is how many bytes the two ports have.
	portsLength = 4
	// offsetBits is how many of the lowest bits of the fragment's number are its offset.
	offsetBits = 13
	// rightSum is what the words of a header add up to.
	rightSum = 0xffff
	// hopSum is by how much a word falls when the TTL, its high byte, does by one.
	hopSum = 1 << 8
)

// The protocols that have ports.
const (
	tcp = 6
	udp = 17
)

// Packet is a right IPv4 packet; behind it more bytes may stand.
type Packet struct {
	bytes         string
	header, total int
}

// Read takes a packet apart; false, if it is not right.
func Read(bytes string) (Packet, bool) {
	if len(bytes) < leastHeader || bytes[0]>>4 != version {
		return Packet{}, false
	}
	p := Packet{bytes: bytes, header: int(bytes[0]&0xf) * 4}
	p.total = p.word(totalAt)
	if p.header < leastHeader || p.total < p.header || len(bytes) < p.total {
		return Packet{}, false
	}
	if p.headerSum() != rightSum {
		return Packet{}, false
	}
	return p, true
}

// word tells the number of 16 bits at a place.
func (p Packet) word(at int) int { return int(p.bytes[at])<<8 | int(p.bytes[at+1]) }

// address tells the number of 32 bits at a place.
func (p Packet) address(at int) int { return p.word(at)<<16 | p.word(at+2) }

// add is the sum of two words in ones' complement.
func add(a, b int) int {
	sum := a + b
	return sum&0xffff + sum>>16
}

// headerSum is the sum of the header's words in ones' complement.
func (p Packet) headerSum() int {
	sum := 0
	for at := 0; at < p.header; at += 2 {
		sum = add(sum, p.word(at))
	}
	return sum
}

// Key tells what rules ask of a packet.
func (p Packet) Key() api.Key {
	k := api.Key{p.address(sourceAt), p.Destination(), int(p.bytes[protocolAt])}
	if p.hasPorts() {
		k[3], k[4] = p.word(p.header), p.word(p.header+2)
	}
	return k
}

// hasPorts tells whether ports stand behind the header: a later fragment has other bytes there.
func (p Packet) hasPorts() bool {
	protocol, offset := p.bytes[protocolAt], p.word(fragmentAt)&(1<<offsetBits-1)
	return (protocol == tcp || protocol == udp) && offset == 0 && p.total >= p.header+portsLength
}

// Destination tells the address that a packet is for.
func (p Packet) Destination() int { return p.address(destinationAt) }

// TTL tells how many hops a packet still has.
func (p Packet) TTL() int { return int(p.bytes[ttlAt]) }

// Hop tells a packet's bytes one hop on, and those behind it.
// It is right again, as its checksum makes up for what the TTL lost.
func (p Packet) Hop() string {
	b := []byte(p.bytes)
	b[ttlAt]--
	sum := add(p.word(sumAt), hopSum)
	b[sumAt], b[sumAt+1] = byte(sum>>8), byte(sum)
	return string(b)
}
