package portico_test

import (
	"math"
	"math/rand"
	"slices"
	"testing"

	"portico/api"
	"portico/portico"
)

// pair is a switch and its model, and how many frames had each fate, and calls each answer.
type pair struct {
	s       *portico.Switch
	m       *model
	r       *rand.Rand
	fates   [11]int
	answers [10]int
	routed  int
}

// pick tells one of some.
func pick[T any](r *rand.Rand, l ...T) T { return l[r.Intn(len(l))] }

// vlan picks a number that is mostly one of few VLANs.
func (p *pair) vlan() int {
	if p.r.Intn(40) == 0 {
		return pick(p.r, -1, 0, 4094, 4095)
	}
	return 1 + p.r.Intn(6)
}

// mac picks one of so many, now and then a group's.
func (p *pair) mac(many, groups int) string {
	if p.r.Intn(groups) == 0 {
		return pick(p.r, every, group)
	}
	return name(p.r.Intn(many))
}

// address picks one of those that few prefixes have.
func (p *pair) address() int { return p.r.Intn(4)<<30 | p.r.Intn(4)<<8 | p.r.Intn(4) }

// packet makes one that is mostly right.
func (p *pair) packet() string {
	h := header{
		ttl: pick(p.r, 0, 1, 2, 64, 255, 255), protocol: pick(p.r, 1, 6, 17), fragment: pick(p.r, 0, 0, 0x4000, 1, 0x1fff),
		from: p.address(), to: p.address(),
		options: pick(p.r, "", "", "", "opts", "option 1option 2option 3option 4option 5"),
	}
	packet := h.packet(pick(p.r, "", "\x00\x01\x00", "\x00\x01\x00\x02", "\x00\x02\x00\x01data")) + pick(p.r, "", "", "behind")
	switch at := p.r.Intn(len(packet)); p.r.Intn(20) {
	case 0:
		return packet[:at]
	case 1:
		return packet[:at] + string([]byte{packet[at] ^ 1<<p.r.Intn(8)}) + packet[at+1:]
	}
	return packet
}

// rest makes what stands behind a frame's MACs and tag.
func (p *pair) rest() string {
	if p.r.Intn(3) > 0 {
		return ip + p.packet()
	}
	bytes := make([]byte, p.r.Intn(20))
	p.r.Read(bytes)
	return pick(p.r, "\x12\x34", ip, "\x81\x00") + string(bytes)
}

// vlanAt picks a VLAN for a frame at a port, and whether it has a tag; mostly the port has it.
func (p *pair) vlanAt(port int) (vlan int, tagged bool) {
	has := p.m.tagged[port]
	switch {
	case p.r.Intn(10) == 0:
		return max(p.vlan(), 0), true
	case len(has) > 0 && (p.m.native[port] == 0 || p.r.Intn(2) == 0):
		return pick(p.r, has...), true
	}
	return p.m.native[port], false
}

// data makes a frame for a port; one of two is for a face, if there is one.
func (p *pair) data(port int) string {
	vlan, tagged := p.vlanAt(port)
	to := p.mac(40, 6)
	if face := p.m.faces[vlan]; face != "" && p.r.Intn(2) == 0 {
		to = face
	}
	data := to + p.mac(40, 40)
	if tagged {
		data += tag(vlan, p.r.Intn(16))
	}
	data += p.rest()
	switch p.r.Intn(60) {
	case 0:
		return data[:p.r.Intn(len(data))]
	case 1:
		return data + string(make([]byte, 560+p.r.Intn(60)))
	}
	return data
}

func (p *pair) frame(t *testing.T) {
	port := p.r.Intn(len(p.m.native))
	data := p.data(port)
	if p.r.Intn(50) == 0 {
		port = pick(p.r, -1, len(p.m.native), 8)
	}
	got, fate := p.s.Frame(port, data)
	want, wantFate := p.m.frame(port, data)
	if fate != wantFate || !slices.Equal(got, want) {
		t.Fatalf("Frame(%d, %q) = %+v, %d, want %+v, %d", port, data, got, fate, want, wantFate)
	}
	p.fates[fate]++
	if fate == api.Sent && got[0].Data[6:12] != data[6:12] {
		p.routed++
	}
}

// same holds a switch's answer against its model's.
func (p *pair) same(t *testing.T, call string, got, want api.Errno) {
	t.Helper()
	if got != want {
		t.Fatalf("%s = %d, want %d", call, got, want)
	}
	p.answers[want]++
}

func (p *pair) port(t *testing.T) {
	port, native := p.r.Intn(len(p.m.native)+2)-1, p.vlan()*pick(p.r, 0, 1, 1, 1)
	var tagged []int
	for range p.r.Intn(4) {
		tagged = append(tagged, p.vlan())
	}
	p.same(t, "Port", p.s.Port(port, native, tagged), p.m.port(port, native, tagged))
}

func (p *pair) tick(t *testing.T) {
	n := pick(p.r, -1, 0, 1, 10, 30, 100, 150, 300, 1000000, 1000001)
	p.same(t, "Tick", p.s.Tick(n), p.m.tick(n))
}

func (p *pair) face(t *testing.T) {
	vlan, mac := p.vlan()*pick(p.r, 1, 1, 1, 7, 11), p.mac(3, 20)
	if p.r.Intn(4) == 0 {
		mac = pick(p.r, "", "", "", "x", mac+"x")
	}
	p.same(t, "Face", p.s.Face(vlan, mac), p.m.face(vlan, mac))
}

// prefix picks a prefix that is mostly right.
func (p *pair) prefix() (bits, length int) {
	bits, length = p.address(), pick(p.r, 0, 1, 2, 22, 23, 24, 30, 31, 32)
	switch p.r.Intn(20) {
	case 0:
		return bits, length
	case 1:
		return pick(p.r, -1, 1<<32, math.MaxInt, math.MinInt, 0), pick(p.r, -1, 33, math.MaxInt, math.MinInt, 0)
	}
	return bits >> (32 - length) << (32 - length), length
}

func (p *pair) route(t *testing.T) {
	bits, length := p.prefix()
	vlan, mac := p.vlan(), p.mac(40, 20)
	p.same(t, "Route", p.s.Route(bits, length, vlan, mac), p.m.route(bits, length, vlan, mac))
}

func (p *pair) unroute(t *testing.T) {
	bits, length := p.prefix()
	p.same(t, "Unroute", p.s.Unroute(bits, length), p.m.unroute(bits, length))
}

// match picks a match of a field that some keys have and some have not.
func (p *pair) match(field int) api.Match {
	switch {
	case field < 2 && p.r.Intn(3) == 0:
		mask := 1<<32 - 1<<p.r.Intn(33)
		return api.Match{V: p.address() & mask, M: mask}
	case field == 2 && p.r.Intn(3) == 0:
		return api.Match{Kind: api.Range, V: pick(p.r, 0, 1, 2, 6), M: pick(p.r, 6, 16, 17, 255)}
	case field > 2 && p.r.Intn(3) == 0:
		return api.Match{Kind: api.Range, V: p.r.Intn(2), M: 1 + p.r.Intn(2)}
	}
	return api.Match{}
}

func (p *pair) insert(t *testing.T) {
	r := api.Rule{ID: p.r.Intn(260), Priority: p.r.Intn(5), Action: p.r.Intn(3)}
	for field := range r.Match {
		r.Match[field] = p.match(field)
	}
	if r.Action == api.Send {
		r.Port = p.r.Intn(9)
	}
	if p.r.Intn(20) == 0 {
		r.Action = pick(p.r, -1, 3, r.Action)
		r.ID = pick(p.r, -1, r.ID)
	}
	p.same(t, "Insert", p.s.Insert(r), p.m.insert(r))
}

func (p *pair) delete(t *testing.T) {
	id := p.r.Intn(261) - 1
	p.same(t, "Delete", p.s.Delete(id), p.m.delete(id))
}

// set calls one of the calls that set something.
func (p *pair) set(t *testing.T) {
	pick(p.r, p.port, p.tick, p.face, p.route, p.route, p.unroute, p.insert, p.delete)(t)
}

// fill calls those that may be full so often that they are.
func (p *pair) fill(t *testing.T) {
	for range 1500 {
		pick(p.r, p.face, p.route, p.insert)(t)
	}
}

// Whatever was called ahead, a switch answers what its model does.
func TestAgainstTheModel(t *testing.T) {
	var all pair
	for seed := range int64(100) {
		r := rand.New(rand.NewSource(seed))
		ports := 1 + r.Intn(8)
		p := &pair{s: fresh(t, ports), m: modelOf(ports), r: r}
		if seed%10 == 9 {
			p.fill(t)
		}
		for range 1500 {
			if r.Intn(8) == 0 {
				p.set(t)
			} else {
				p.frame(t)
			}
			wantMacs(t, p.s, p.m.sorted()...)
		}
		all.count(p)
	}
	for fate, n := range all.fates {
		if n < 100 {
			t.Errorf("only %d frames had the fate %d", n, fate)
		}
	}
	for answer, n := range all.answers {
		if n < 20 {
			t.Errorf("only %d calls answered %d", n, answer)
		}
	}
	if all.routed < 1000 {
		t.Errorf("only %d frames were routed and sent", all.routed)
	}
}

// count adds up what became of frames and calls.
func (p *pair) count(other *pair) {
	for fate, n := range other.fates {
		p.fates[fate] += n
	}
	for answer, n := range other.answers {
		p.answers[answer] += n
	}
	p.routed += other.routed
}
