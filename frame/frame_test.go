package frame_test

import (
	"strings"
	"testing"

	"portico/frame"
)

const (
	to   = "\x02to to"
	from = "\x02from!"
)

func TestReadPlain(t *testing.T) {
	got, whole := frame.Read(to + from + "\x12\x34rest")
	want := frame.Frame{To: to, From: from, Type: "\x12\x34", Rest: "rest"}
	if !whole || got != want {
		t.Errorf("Read = %+v, %t, want %+v", got, whole, want)
	}
}

func TestReadTagged(t *testing.T) {
	for _, x := range []struct {
		tag        string
		vlan, mark int
	}{
		{"\x00\x01", 1, 0},
		{"\xf0\x00", 0, 15},
		{"\x5f\xff", 4095, 5},
		{"\x91\x02", 258, 9},
		{"\x8f\xfe", 4094, 8},
	} {
		data := to + from + "\x81\x00" + x.tag + "\x08\x00rest"
		got, whole := frame.Read(data)
		want := frame.Frame{To: to, From: from, Tagged: true, VLAN: x.vlan, Mark: x.mark, Type: "\x08\x00", Rest: "rest"}
		if !whole || got != want {
			t.Errorf("Read of tag %q = %+v, %t, want %+v", x.tag, got, whole, want)
		}
		if back := got.Bytes(); back != data {
			t.Errorf("Bytes = %q, want %q", back, data)
		}
	}
}

func TestReadTellsHowShortIsTooShort(t *testing.T) {
	for _, x := range []struct {
		data  string
		least int
	}{
		{to + from + "\x12\x34rest", 14},
		{to + from + "\x81\x01rest", 14},
		{to + from + "\x82\x00rest", 14},
		{to + from + "\x00\x81rest", 14},
		{to + from + "\x81\x00\x00\x01\x12\x34rest", 18},
	} {
		for n := range len(x.data) + 1 {
			f, whole := frame.Read(x.data[:n])
			// Short of its type, nobody can tell that a frame has a tag.
			if want := n >= x.least; whole != want {
				t.Errorf("Read(%q): %t, want %t", x.data[:n], whole, want)
			}
			if !whole && f != (frame.Frame{}) {
				t.Errorf("Read(%q) = %+v beside false", x.data[:n], f)
			}
			if whole && f.Bytes() != x.data[:n] {
				t.Errorf("Read(%q).Bytes() = %q", x.data[:n], f.Bytes())
			}
		}
	}
}

func TestATagBehindTheTagIsTheType(t *testing.T) {
	f, whole := frame.Read(to + from + "\x81\x00\x00\x07\x81\x00\x00\x09\x12\x34")
	if !whole || f.VLAN != 7 || f.Type != "\x81\x00" || f.Rest != "\x00\x09\x12\x34" {
		t.Errorf("Read = %+v, %t", f, whole)
	}
}

func TestBytesFollowTagged(t *testing.T) {
	f := frame.Frame{To: to, From: from, VLAN: 4094, Mark: 15, Type: "\x12\x34", Rest: strings.Repeat("x", 600)}
	if got, want := f.Bytes(), to+from+"\x12\x34"+f.Rest; got != want {
		t.Errorf("Bytes = %q, want %q", got, want)
	}
	f.Tagged = true
	if got, want := f.Bytes(), to+from+"\x81\x00\xff\xfe\x12\x34"+f.Rest; got != want {
		t.Errorf("Bytes = %q, want %q", got, want)
	}
}

func TestKindOf(t *testing.T) {
	for bytes, want := range map[string]frame.Kind{
		"\x81\x00":     frame.Tag,
		"\x08\x00":     frame.IPv4,
		"\x00\x08":     frame.Other,
		"\x08\x06":     frame.Other,
		"\x86\xdd":     frame.Other,
		"\x81":         frame.Other,
		"\x08\x00\x00": frame.Other,
		"":             frame.Other,
	} {
		if got := frame.KindOf(bytes); got != want {
			t.Errorf("KindOf(%q) = %d, want %d", bytes, got, want)
		}
	}
}

func TestIsGroup(t *testing.T) {
	for mac, want := range map[string]bool{
		"\xff\xff\xff\xff\xff\xff": true,
		"\x01\x00\x00\x00\x00\x00": true,
		"\x03aaaaa":                true,
		"\x00\x01\x01\x01\x01\x01": false,
		"\xfe\xff\xff\xff\xff\xff": false,
		"":                         false,
	} {
		if got := frame.IsGroup(mac); got != want {
			t.Errorf("IsGroup(%q) = %t, want %t", mac, got, want)
		}
	}
}

func TestIsStation(t *testing.T) {
	for text, want := range map[string]bool{
		"\x02aaaaa":                true,
		"\x00\x00\x00\x00\x00\x00": true,
		"\xfe\xff\xff\xff\xff\xff": true,
		"\xff\xff\xff\xff\xff\xff": false,
		"\x01\x00\x00\x00\x00\x00": false,
		"\x02aaaa":                 false,
		"\x02aaaaaa":               false,
		"":                         false,
	} {
		if got := frame.IsStation(text); got != want {
			t.Errorf("IsStation(%q) = %t, want %t", text, got, want)
		}
	}
}
