package portico_test

import (
	"math"
	"slices"
	"testing"

	"portico/api"
	"portico/portico"
)

func TestNewRefusesPorts(t *testing.T) {
	for _, n := range []int{0, -1, 9, math.MaxInt, math.MinInt} {
		if s, err := portico.New(n); s != nil || err != api.ErrPort {
			t.Errorf("New(%d) = %v, %d, want nothing, ErrPort", n, s, err)
		}
	}
}

func TestNewHasPortsOfVLAN1(t *testing.T) {
	for n := 1; n <= api.MaxPorts; n++ {
		s := fresh(t, n)
		wantMacs(t, s)
		wantFate(t, s, n, every+a+text, api.Unknown)
		wantFate(t, s, n-1, every+a+tag(1, 0)+text, api.Barred)
		var want []api.Out
		for i := range n - 1 {
			want = append(want, out(i, every+a+text))
		}
		if n == 1 {
			wantFate(t, s, 0, every+a+text, api.Nowhere)
		} else {
			wantSent(t, s, n-1, every+a+text, want...)
		}
		wantMacs(t, s, api.Mac{VLAN: 1, MAC: a, Port: n - 1})
	}
}

func TestPortRefusesPorts(t *testing.T) {
	s := fresh(t, 3)
	for _, port := range []int{-1, 3, 8, math.MaxInt, math.MinInt} {
		wantPort(t, s, port, 1, nil, api.ErrPort)
		// The port is asked for ahead of the VLANs.
		wantPort(t, s, port, -1, []int{0, 0}, api.ErrPort)
	}
}

func TestPortRefusesVLANs(t *testing.T) {
	for _, x := range []struct {
		native int
		tagged []int
	}{
		{-1, nil},
		{4095, nil},
		{math.MaxInt, nil},
		{math.MinInt, nil},
		{1, []int{0}},
		{1, []int{4095}},
		{1, []int{2, 3, -1}},
		{1, []int{2, math.MaxInt}},
		{1, []int{math.MinInt}},
		{1, []int{2, 3, 2}},
		{1, []int{4094, 4094}},
		{1, []int{1}},
		{7, []int{2, 3, 7}},
		{4094, []int{4094}},
		{0, []int{0}},
	} {
		s := fresh(t, 2)
		wantPort(t, s, 0, 5, []int{1, 2}, api.OK)
		wantPort(t, s, 0, x.native, x.tagged, api.ErrVLAN)
		// The port is as it was.
		wantPort(t, s, 1, 0, []int{1, 2, 3, 5, 7, 4094}, api.OK)
		wantSent(t, s, 0, every+a+text, out(1, every+a+tag(5, 0)+text))
		wantSent(t, s, 0, every+a+tag(2, 0)+text, out(1, every+a+tag(2, 0)+text))
		wantFate(t, s, 0, every+a+tag(3, 0)+text, api.Barred)
	}
}

func TestPortTakesVLANs(t *testing.T) {
	s := fresh(t, 2)
	all := make([]int, 0, api.MaxVLAN)
	for vlan := api.MaxVLAN; vlan > 0; vlan-- {
		all = append(all, vlan)
	}
	wantPort(t, s, 0, 0, all, api.OK)
	wantPort(t, s, 1, 1, all[:api.MaxVLAN-1], api.OK)
	wantPort(t, s, 1, 1, all, api.ErrVLAN)
	for _, vlan := range []int{2, 2047, 2048, 4094} {
		wantSent(t, s, 0, every+a+tag(vlan, 3)+text, out(1, every+a+tag(vlan, 3)+text))
	}
	wantSent(t, s, 0, every+a+tag(1, 3)+text, out(1, every+a+text))
	for _, vlan := range []int{0, 4095} {
		wantFate(t, s, 0, every+a+tag(vlan, 3)+text, api.Barred)
	}
}

// A list that is far too long ends at what may not be in it.
func TestPortEndsAtLongLists(t *testing.T) {
	s := fresh(t, 1)
	wantPort(t, s, 0, 0, make([]int, 1<<20), api.ErrVLAN)
	long := make([]int, 1<<20)
	for i := range long {
		long[i] = 1 + i%api.MaxVLAN
	}
	wantPort(t, s, 0, 0, long, api.ErrVLAN)
}

func TestPortReplacesWhatWas(t *testing.T) {
	s := fresh(t, 2)
	wantPort(t, s, 0, 2, []int{3, 4}, api.OK)
	wantPort(t, s, 0, 4, []int{5}, api.OK)
	wantPort(t, s, 1, 0, []int{1, 2, 3, 4, 5}, api.OK)
	for vlan := 1; vlan <= 3; vlan++ {
		wantFate(t, s, 1, every+a+tag(vlan, 0)+text, api.Nowhere)
		wantFate(t, s, 0, every+a+tag(vlan, 0)+text, api.Barred)
	}
	wantSent(t, s, 1, every+a+tag(4, 0)+text, out(0, every+a+text))
	wantSent(t, s, 1, every+a+tag(5, 0)+text, out(0, every+a+tag(5, 0)+text))
	wantPort(t, s, 0, 0, nil, api.OK)
	wantFate(t, s, 0, every+a+text, api.Barred)
	wantFate(t, s, 1, every+a+tag(4, 0)+text, api.Nowhere)
}

func TestPortKeepsNothingOfItsList(t *testing.T) {
	s := fresh(t, 2)
	list := []int{2, 3, 99, 98}
	wantPort(t, s, 0, 1, list[:2], api.OK)
	wantPort(t, s, 1, 1, list[:3], api.OK)
	if !slices.Equal(list, []int{2, 3, 99, 98}) {
		t.Errorf("the list is %v now", list)
	}
	list[0] = 7
	wantSent(t, s, 0, every+a+tag(2, 0)+text, out(1, every+a+tag(2, 0)+text))
	wantFate(t, s, 0, every+a+tag(7, 0)+text, api.Barred)
}

func TestTickRefusesTimes(t *testing.T) {
	s := fresh(t, 2)
	wantFate(t, s, 0, a+a+text, api.Nowhere)
	for _, n := range []int{-1, 1000001, math.MaxInt, math.MinInt} {
		wantTick(t, s, n, api.ErrTime)
		wantMacs(t, s, api.Mac{VLAN: 1, MAC: a})
	}
}

func TestTick(t *testing.T) {
	s := fresh(t, 2)
	wantFate(t, s, 0, a+a+text, api.Nowhere)
	wantTick(t, s, 0, api.OK)
	wantMacs(t, s, api.Mac{VLAN: 1, MAC: a})
	wantTick(t, s, 300, api.OK)
	wantMacs(t, s, api.Mac{VLAN: 1, MAC: a, Age: 300})
	wantSent(t, s, 1, a+b+text, out(0, a+b+text))
	wantTick(t, s, 1, api.OK)
	wantMacs(t, s, api.Mac{VLAN: 1, MAC: b, Port: 1, Age: 1})
	// It is known no more, and goes to all.
	wantSent(t, s, 0, a+b+text, out(1, a+b+text))
	wantTick(t, s, 1000000, api.OK)
	wantMacs(t, s)
}

func TestSwitchesAreApart(t *testing.T) {
	s, other := fresh(t, 2), fresh(t, 2)
	wantPort(t, s, 1, 5, nil, api.OK)
	wantFate(t, s, 0, b+a+text, api.Nowhere)
	wantTick(t, s, 9, api.OK)
	wantMacs(t, other)
	wantSent(t, other, 1, a+b+text, out(0, a+b+text))
	wantMacs(t, other, api.Mac{VLAN: 1, MAC: b, Port: 1})
	wantMacs(t, s, api.Mac{VLAN: 1, MAC: a, Age: 9})
}

func TestMacsIsNewMemory(t *testing.T) {
	s := fresh(t, 2)
	wantFate(t, s, 0, a+a+text, api.Nowhere)
	l := s.Macs()
	l[0] = api.Mac{VLAN: 9}
	_ = append(l, api.Mac{VLAN: 8})
	wantMacs(t, s, api.Mac{VLAN: 1, MAC: a})
}
