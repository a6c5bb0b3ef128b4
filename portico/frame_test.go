package portico_test

import (
	"math"
	"strings"
	"testing"
	"unsafe"

	"portico/api"
)

// The document's examples 2 and 3.
func TestExamples(t *testing.T) {
	s := fresh(t, 2)
	wantSent(t, s, 0, b+a+text, out(1, b+a+text))
	wantSent(t, s, 1, a+b+text, out(0, a+b+text))
	wantMacs(t, s, api.Mac{VLAN: 1, MAC: a, Port: 0}, api.Mac{VLAN: 1, MAC: b, Port: 1})
	wantPort(t, s, 1, 0, []int{1, 5}, api.OK)
	wantSent(t, s, 0, b+a+text, out(1, b+a+"\x81\x00\x00\x01"+text))
}

// Each of these frames would have the fates of those that follow it, too.
func TestTheFirstFateIsTold(t *testing.T) {
	s := fresh(t, 2)
	wantPort(t, s, 0, 0, nil, api.OK)
	long := b + group + "\x81\x00" + strings.Repeat("x", 600)
	for _, port := range []int{-1, 2, 8, math.MaxInt, math.MinInt} {
		wantFate(t, s, port, long, api.Unknown)
		wantFate(t, s, port, "", api.Unknown)
		wantFate(t, s, port, a+a+text, api.Unknown)
	}
	wantFate(t, s, 0, long, api.Long)
	wantFate(t, s, 0, b+group+"\x12", api.Short)
	wantFate(t, s, 0, b+group+"\x81\x00\x00\x05\x12", api.Short)
	wantFate(t, s, 0, b+group+text, api.Source)
	wantFate(t, s, 0, b+group+tag(5, 0)+text, api.Source)
	wantFate(t, s, 0, b+a+text, api.Barred)
	wantFate(t, s, 0, b+a+tag(5, 0)+text, api.Barred)
	wantMacs(t, s)
}

func TestLong(t *testing.T) {
	s := fresh(t, 2)
	wantPort(t, s, 1, 0, []int{1}, api.OK)
	rest := "\x12\x34" + strings.Repeat("y", api.MaxFrame-14)
	// It may have more bytes when it goes out.
	wantSent(t, s, 0, b+a+rest, out(1, b+a+tag(1, 0)+rest))
	wantFate(t, s, 0, b+a+rest+"y", api.Long)
	wantFate(t, s, 1, b+c+tag(1, 0)+rest, api.Long)
	wantSent(t, s, 1, b+c+tag(1, 0)+rest[:len(rest)-4], out(0, b+c+rest[:len(rest)-4]))
	wantMacs(t, s, api.Mac{VLAN: 1, MAC: a, Port: 0}, api.Mac{VLAN: 1, MAC: c, Port: 1})
}

func TestShort(t *testing.T) {
	s := fresh(t, 2)
	wantPort(t, s, 1, 1, []int{2}, api.OK)
	wantPort(t, s, 0, 1, []int{2}, api.OK)
	plain, tagged := b+a+"\x12\x34", b+a+tag(2, 0)+"\x12\x34"
	for n := range 14 {
		wantFate(t, s, 0, plain[:n], api.Short)
	}
	for n := range 18 {
		wantFate(t, s, 0, tagged[:n], api.Short)
	}
	wantMacs(t, s)
	wantSent(t, s, 0, plain, out(1, plain))
	wantSent(t, s, 0, tagged, out(1, tagged))
	// No tag, though nearly.
	for _, kind := range []string{"\x81\x01", "\x80\x00", "\x00\x81"} {
		wantSent(t, s, 0, b+a+kind, out(1, b+a+kind))
	}
}

func TestSource(t *testing.T) {
	s := fresh(t, 2)
	wantFate(t, s, 0, b+every+text, api.Source)
	wantFate(t, s, 0, b+"\x01\x00\x00\x00\x00\x00"+text, api.Source)
	wantMacs(t, s)
	wantSent(t, s, 0, b+"\xfe\xff\xff\xff\xff\xff"+text, out(1, b+"\xfe\xff\xff\xff\xff\xff"+text))
	wantSent(t, s, 0, b+"\x00\x00\x00\x00\x00\x00"+text, out(1, b+"\x00\x00\x00\x00\x00\x00"+text))
}

func TestBarred(t *testing.T) {
	s := fresh(t, 2)
	wantPort(t, s, 0, 0, []int{2, 3}, api.OK)
	wantPort(t, s, 1, 2, []int{3, 4}, api.OK)
	wantFate(t, s, 0, b+a+text, api.Barred)
	wantFate(t, s, 0, b+a+tag(0, 0)+text, api.Barred)
	wantFate(t, s, 0, b+a+tag(4, 0)+text, api.Barred)
	wantFate(t, s, 0, b+a+tag(4095, 15)+text, api.Barred)
	// The native VLAN is none of the tagged ones.
	wantFate(t, s, 1, b+a+tag(2, 0)+text, api.Barred)
	wantMacs(t, s)
	wantSent(t, s, 0, b+a+tag(3, 7)+text, out(1, b+a+tag(3, 7)+text))
	wantMacs(t, s, api.Mac{VLAN: 3, MAC: a, Port: 0})
}

func TestForwards(t *testing.T) {
	s := fresh(t, 4)
	wantSent(t, s, 2, b+a+text, out(0, b+a+text), out(1, b+a+text), out(3, b+a+text))
	wantSent(t, s, 0, a+b+text, out(2, a+b+text))
	wantFate(t, s, 2, a+c+text, api.Nowhere)
	wantFate(t, s, 3, name(1)+name(1)+text, api.Nowhere)
	// It moves.
	wantSent(t, s, 1, b+a+text, out(0, b+a+text))
	wantSent(t, s, 0, a+b+text, out(1, a+b+text))
	for _, to := range []string{every, group} {
		wantSent(t, s, 3, to+c+text, out(0, to+c+text), out(1, to+c+text), out(2, to+c+text))
	}
}

// A frame that goes nowhere tells where it came from, all the same.
func TestLearnsFromWhatGoesNowhere(t *testing.T) {
	s := fresh(t, 1)
	wantFate(t, s, 0, b+a+text, api.Nowhere)
	wantMacs(t, s, api.Mac{VLAN: 1, MAC: a})
}

func TestVLANsAreApart(t *testing.T) {
	s := fresh(t, 3)
	wantPort(t, s, 0, 1, []int{2}, api.OK)
	wantPort(t, s, 1, 2, []int{1}, api.OK)
	wantPort(t, s, 2, 3, []int{2}, api.OK)
	wantSent(t, s, 0, every+a+text, out(1, every+a+tag(1, 0)+text))
	wantSent(t, s, 1, every+a+text, out(0, every+a+tag(2, 0)+text), out(2, every+a+tag(2, 0)+text))
	wantMacs(t, s, api.Mac{VLAN: 1, MAC: a, Port: 0}, api.Mac{VLAN: 2, MAC: a, Port: 1})
	wantSent(t, s, 1, a+b+tag(1, 9)+text, out(0, a+b+text))
	wantSent(t, s, 2, a+c+tag(2, 9)+text, out(1, a+c+text))
	wantFate(t, s, 2, a+c+text, api.Nowhere)
}

func TestMarks(t *testing.T) {
	s := fresh(t, 3)
	wantPort(t, s, 0, 1, []int{2}, api.OK)
	wantPort(t, s, 1, 2, []int{1}, api.OK)
	wantPort(t, s, 2, 0, []int{1, 2}, api.OK)
	for mark := range 16 {
		wantSent(t, s, 0, every+a+tag(2, mark)+text, out(1, every+a+text), out(2, every+a+tag(2, mark)+text))
	}
	wantSent(t, s, 0, every+a+text, out(1, every+a+tag(1, 0)+text), out(2, every+a+tag(1, 0)+text))
}

func TestATagBehindTheTagStays(t *testing.T) {
	s := fresh(t, 3)
	wantPort(t, s, 0, 1, []int{2}, api.OK)
	wantPort(t, s, 1, 2, nil, api.OK)
	wantPort(t, s, 2, 0, []int{2}, api.OK)
	inner := tag(3, 4) + text
	wantSent(t, s, 0, every+a+tag(2, 5)+inner, out(1, every+a+inner), out(2, every+a+tag(2, 5)+inner))
}

func TestAPortThatIsNoneOfTheVLANAnyMore(t *testing.T) {
	s := fresh(t, 3)
	wantSent(t, s, 0, b+a+text, out(1, b+a+text), out(2, b+a+text))
	wantPort(t, s, 0, 2, nil, api.OK)
	wantFate(t, s, 1, a+b+text, api.Nowhere)
	wantMacs(t, s, api.Mac{VLAN: 1, MAC: a, Port: 0}, api.Mac{VLAN: 1, MAC: b, Port: 1})
	wantPort(t, s, 0, 0, []int{1}, api.OK)
	wantSent(t, s, 1, a+b+text, out(0, a+b+tag(1, 0)+text))
}

func TestFullOfMacs(t *testing.T) {
	s := fresh(t, 2)
	for i := range api.MaxMacs + 1 {
		wantSent(t, s, 0, every+name(i)+text, out(1, every+name(i)+text))
		if i == 9 {
			wantTick(t, s, 1, api.OK)
		}
	}
	if l := s.Macs(); len(l) != api.MaxMacs || l[63].MAC != name(63) {
		t.Errorf("Macs() = %+v", l)
	}
	// The frame goes on, though nothing is learned; and it goes to all, as nobody knows of it.
	wantSent(t, s, 1, name(64)+name(0)+text, out(0, name(64)+name(0)+text))
	wantSent(t, s, 0, name(0)+name(64)+text, out(1, name(0)+name(64)+text))
	// Nine are too old 300 seconds later, the one that moved is not.
	wantTick(t, s, 300, api.OK)
	if l := s.Macs(); len(l) != 55 || l[0] != (api.Mac{VLAN: 1, MAC: name(0), Port: 1, Age: 300}) || l[1].MAC != name(10) {
		t.Errorf("Macs() = %+v", l)
	}
	for i := 64; i < 74; i++ {
		s.Frame(1, every+name(i)+text)
	}
	if l := s.Macs(); len(l) != api.MaxMacs || l[63] != (api.Mac{VLAN: 1, MAC: name(72), Port: 1}) {
		t.Errorf("Macs() = %+v", l)
	}
}

func TestWhatGoesOutIsNewMemory(t *testing.T) {
	s := fresh(t, 3)
	data := every + a + text
	l, _ := s.Frame(0, data)
	for _, o := range l {
		if unsafe.StringData(o.Data) == unsafe.StringData(data) {
			t.Errorf("what goes out at port %d is what came in", o.Port)
		}
	}
	l[0].Port = 9
	_ = append(l, api.Out{})
	wantSent(t, s, 0, data, out(1, data), out(2, data))
}
