package portico_test

import (
	"cmp"
	"math/rand"
	"slices"
	"testing"

	"portico/api"
	"portico/portico"
)

// model is what a switch should be, told as plainly as the document does.
type model struct {
	native []int
	tagged [][]int
	macs   []api.Mac
}

func modelOf(ports int) *model {
	m := &model{native: make([]int, ports), tagged: make([][]int, ports)}
	for i := range m.native {
		m.native[i] = 1
	}
	return m
}

func (m *model) port(port, native int, tagged []int) api.Errno {
	if port < 0 || port >= len(m.native) {
		return api.ErrPort
	}
	if native < 0 || native > 4094 {
		return api.ErrVLAN
	}
	for i, v := range tagged {
		if v < 1 || v > 4094 || v == native || slices.Contains(tagged[:i], v) {
			return api.ErrVLAN
		}
	}
	m.native[port], m.tagged[port] = native, slices.Clone(tagged)
	return api.OK
}

func (m *model) tick(seconds int) api.Errno {
	if seconds < 0 || seconds > 1000000 {
		return api.ErrTime
	}
	for i := range m.macs {
		m.macs[i].Age += seconds
	}
	m.macs = slices.DeleteFunc(m.macs, func(x api.Mac) bool { return x.Age > 300 })
	return api.OK
}

// at tells where a MAC stands in the list, or -1.
func (m *model) at(vlan int, mac string) int {
	return slices.IndexFunc(m.macs, func(x api.Mac) bool { return x.VLAN == vlan && x.MAC == mac })
}

func (m *model) learn(vlan int, mac string, port int) {
	if i := m.at(vlan, mac); i >= 0 {
		m.macs[i].Port, m.macs[i].Age = port, 0
	} else if len(m.macs) < 64 {
		m.macs = append(m.macs, api.Mac{VLAN: vlan, MAC: mac, Port: port})
	}
}

func (m *model) sorted() []api.Mac {
	l := slices.Clone(m.macs)
	slices.SortFunc(l, func(x, y api.Mac) int {
		return cmp.Or(cmp.Compare(x.VLAN, y.VLAN), cmp.Compare(x.MAC, y.MAC))
	})
	return l
}

func (m *model) frame(port int, data string) ([]api.Out, int) {
	if port < 0 || port >= len(m.native) {
		return nil, api.Unknown
	}
	if len(data) > 600 {
		return nil, api.Long
	}
	hasTag := len(data) >= 14 && data[12] == 129 && data[13] == 0
	if len(data) < 14 || hasTag && len(data) < 18 {
		return nil, api.Short
	}
	if data[6]%2 == 1 {
		return nil, api.Source
	}
	vlan, mark, rest := m.native[port], 0, data[12:]
	if hasTag {
		vlan, mark, rest = int(data[14])%16*256+int(data[15]), int(data[14])/16, data[16:]
	}
	if !hasTag && vlan == 0 || hasTag && !slices.Contains(m.tagged[port], vlan) {
		return nil, api.Barred
	}
	m.learn(vlan, data[6:12], port)
	known := m.at(vlan, data[:6])
	var outs []api.Out
	for i := range m.native {
		if i == port || data[0]%2 == 0 && known >= 0 && m.macs[known].Port != i {
			continue
		}
		if m.native[i] == vlan {
			outs = append(outs, out(i, data[:12]+rest))
		} else if slices.Contains(m.tagged[i], vlan) {
			outs = append(outs, out(i, data[:12]+tag(vlan, mark)+rest))
		}
	}
	if len(outs) == 0 {
		return nil, api.Nowhere
	}
	return outs, api.Sent
}

// pair is a switch and its model, and how many frames had each fate.
type pair struct {
	s     *portico.Switch
	m     *model
	r     *rand.Rand
	fates [11]int
}

// vlan picks a number that is mostly one of few VLANs.
func (p *pair) vlan() int {
	if p.r.Intn(40) == 0 {
		return []int{-1, 0, 4094, 4095}[p.r.Intn(4)]
	}
	return 1 + p.r.Intn(6)
}

// mac picks one of so many, now and then a group's.
func (p *pair) mac(many, groups int) string {
	if p.r.Intn(groups) == 0 {
		return []string{every, group}[p.r.Intn(2)]
	}
	return name(p.r.Intn(many))
}

func (p *pair) data() string {
	data := p.mac(40, 6) + p.mac(40, 40)
	if p.r.Intn(2) == 0 {
		data += tag(max(p.vlan(), 0), p.r.Intn(16))
	}
	data += []string{"\x12\x34", "\x08\x00", "\x81\x00"}[p.r.Intn(3)]
	bytes := make([]byte, p.r.Intn(20))
	p.r.Read(bytes)
	data += string(bytes)
	switch p.r.Intn(60) {
	case 0:
		return data[:p.r.Intn(len(data))]
	case 1:
		return data + string(make([]byte, 560+p.r.Intn(60)))
	}
	return data
}

func (p *pair) frame(t *testing.T) {
	port, data := p.r.Intn(len(p.m.native)+1)-p.r.Intn(20)/19, p.data()
	got, fate := p.s.Frame(port, data)
	want, wantFate := p.m.frame(port, data)
	if fate != wantFate || !slices.Equal(got, want) {
		t.Fatalf("Frame(%d, %q) = %+v, %d, want %+v, %d", port, data, got, fate, want, wantFate)
	}
	p.fates[fate]++
}

func (p *pair) port(t *testing.T) {
	port, native := p.r.Intn(len(p.m.native)+2)-1, p.vlan()*p.r.Intn(2)
	var tagged []int
	for range p.r.Intn(4) {
		tagged = append(tagged, p.vlan())
	}
	want := p.m.port(port, native, tagged)
	wantPort(t, p.s, port, native, tagged, want)
}

func (p *pair) tick(t *testing.T) {
	n := []int{-1, 0, 1, 10, 30, 100, 150, 300, 1000000, 1000001}[p.r.Intn(10)]
	want := p.m.tick(n)
	wantTick(t, p.s, n, want)
}

// Whatever was called ahead, a switch answers what its model does.
func TestAgainstTheModel(t *testing.T) {
	var all [11]int
	for seed := range int64(60) {
		r := rand.New(rand.NewSource(seed))
		ports := 1 + r.Intn(8)
		p := &pair{s: fresh(t, ports), m: modelOf(ports), r: r}
		for range 1000 {
			switch r.Intn(30) {
			case 0:
				p.port(t)
			case 1:
				p.tick(t)
			default:
				p.frame(t)
			}
			wantMacs(t, p.s, p.m.sorted()...)
		}
		for fate, n := range p.fates {
			all[fate] += n
		}
	}
	for _, fate := range []int{api.Sent, api.Short, api.Source, api.Barred, api.Nowhere, api.Unknown, api.Long} {
		if all[fate] < 100 {
			t.Errorf("only %d frames had the fate %d", all[fate], fate)
		}
	}
}
