// Package frame: frames, and what their bytes tell.
package frame

// Kind is what a type's bytes mean.
type Kind int

const (
	Other Kind = iota
	Tag
	IPv4
)

// tagBytes stand where a type would, if a tag does.
const tagBytes = "\x81\x00"

// meaning is what a type's bytes mean.
type meaning struct {
	bytes string
	kind  Kind
}

// meanings has the types that mean something here.
var meanings = [...]meaning{
	{bytes: tagBytes, kind: Tag},
	{bytes: "\x08\x00", kind: IPv4},
}

// KindOf tells what a type's bytes mean.
func KindOf(bytes string) Kind {
	for _, m := range meanings {
		if m.bytes == bytes {
			return m.kind
		}
	}
	return Other
}

// Where the parts of a frame end; with a tag, its type ends so much later.
const (
	toEnd     = 6
	fromEnd   = 12
	typeEnd   = 14
	tagLength = 4
)

// vlanBits is how many of the lowest bits of a tag are the VLAN; those above are the mark.
const vlanBits = 12

// Frame is a frame in its parts. Its VLAN and mark go into its bytes if it is tagged.
type Frame struct {
	To, From   string
	Tagged     bool
	VLAN, Mark int
	Type, Rest string
}

// Read takes a frame apart; false, if it is too short to be one.
func Read(data string) (Frame, bool) {
	if len(data) < typeEnd {
		return Frame{}, false
	}
	f := Frame{To: data[:toEnd], From: data[toEnd:fromEnd]}
	end := typeEnd
	if KindOf(data[fromEnd:typeEnd]) == Tag {
		end += tagLength
		if len(data) < end {
			return Frame{}, false
		}
		f.readTag(data[fromEnd+len(tagBytes) : fromEnd+tagLength])
	}
	f.Type, f.Rest = data[end-2:end], data[end:]
	return f, true
}

// readTag takes a VLAN and a mark out of two bytes.
func (f *Frame) readTag(b string) {
	n := int(b[0])<<8 | int(b[1])
	f.Tagged, f.VLAN, f.Mark = true, n&(1<<vlanBits-1), n>>vlanBits
}

// tag tells the bytes of a frame's tag: none, if it has none.
func (f Frame) tag() string {
	if !f.Tagged {
		return ""
	}
	n := f.Mark<<vlanBits | f.VLAN
	return tagBytes + string([]byte{byte(n >> 8), byte(n)})
}

// Bytes puts a frame together.
func (f Frame) Bytes() string { return f.To + f.From + f.tag() + f.Type + f.Rest }

// IsStation tells whether a text is a MAC, and no group's.
func IsStation(text string) bool { return len(text) == toEnd && !IsGroup(text) }

// IsGroup tells whether a MAC is a group's.
func IsGroup(mac string) bool { return mac != "" && mac[0]&1 == 1 }
