package portico_test

import (
	"cmp"
	"slices"

	"portico/api"
)

// way is a route's end.
type way struct {
	vlan int
	mac  string
}

// model is what a switch should be, told as plainly as the document does.
type model struct {
	native []int
	tagged [][]int
	macs   []api.Mac
	faces  map[int]string
	routes map[[2]int]way
	rules  []api.Rule
}

func modelOf(ports int) *model {
	m := &model{native: make([]int, ports), tagged: make([][]int, ports), faces: map[int]string{}, routes: map[[2]int]way{}}
	for i := range m.native {
		m.native[i] = 1
	}
	return m
}

func (m *model) port(port, native int, tagged []int) api.Errno {
	if port < 0 || port >= len(m.native) {
		return api.ErrPort
	}
	if native < 0 || native > 4094 {
		return api.ErrVLAN
	}
	for i, v := range tagged {
		if v < 1 || v > 4094 || v == native || slices.Contains(tagged[:i], v) {
			return api.ErrVLAN
		}
	}
	m.native[port], m.tagged[port] = native, slices.Clone(tagged)
	return api.OK
}

func (m *model) face(vlan int, mac string) api.Errno {
	_, there := m.faces[vlan]
	switch {
	case vlan < 1 || vlan > 4094:
		return api.ErrVLAN
	case mac != "" && (len(mac) != 6 || mac[0]%2 == 1):
		return api.ErrMac
	case mac == "" && !there:
		return api.ErrNone
	case mac != "" && !there && len(m.faces) >= 16:
		return api.ErrFull
	}
	m.faces[vlan] = mac
	if mac == "" {
		delete(m.faces, vlan)
	}
	return api.OK
}

func (m *model) route(prefix, length, vlan int, mac string) api.Errno {
	_, there := m.routes[[2]int{prefix, length}]
	switch {
	case length < 0 || length > 32 || prefix < 0 || prefix > 1<<32-1 || prefix%(1<<(32-length)) != 0:
		return api.ErrRoute
	case vlan < 1 || vlan > 4094:
		return api.ErrVLAN
	case len(mac) != 6 || mac[0]%2 == 1:
		return api.ErrMac
	case !there && len(m.routes) >= 100:
		return api.ErrFull
	}
	m.routes[[2]int{prefix, length}] = way{vlan: vlan, mac: mac}
	return api.OK
}

func (m *model) unroute(prefix, length int) api.Errno {
	if _, there := m.routes[[2]int{prefix, length}]; !there {
		return api.ErrNone
	}
	delete(m.routes, [2]int{prefix, length})
	return api.OK
}

// insert is asked for rules whose matches are right alone.
func (m *model) insert(r api.Rule) api.Errno {
	switch {
	case r.ID < 0 || r.Priority < 0 || r.Priority > 1000 || r.Action < 0 || r.Action > 2,
		r.Action == 2 && (r.Port < 0 || r.Port > 7), r.Action != 2 && r.Port != 0:
		return api.ErrRule
	case r.Action == 2 && r.Port >= len(m.native):
		return api.ErrPort
	case m.rule(r.ID) >= 0:
		return api.ErrTwice
	case len(m.rules) >= 200:
		return api.ErrFull
	}
	m.rules = append(m.rules, r)
	return api.OK
}

// rule tells where a rule stands in the list, or -1.
func (m *model) rule(id int) int {
	return slices.IndexFunc(m.rules, func(r api.Rule) bool { return r.ID == id })
}

func (m *model) delete(id int) api.Errno {
	i := m.rule(id)
	if i < 0 {
		return api.ErrNone
	}
	m.rules = slices.Delete(m.rules, i, i+1)
	return api.OK
}

// first tells the first rule that matches a key: a permit, if there is none.
func (m *model) first(k api.Key) api.Rule {
	first, found := api.Rule{}, false
	for _, r := range m.rules {
		if matches(r, k) && (!found || r.Priority > first.Priority || r.Priority == first.Priority && r.ID < first.ID) {
			first, found = r, true
		}
	}
	return first
}

func matches(r api.Rule, k api.Key) bool {
	for i, m := range r.Match {
		if m.Kind == api.Mask && k[i]&m.M != m.V || m.Kind == api.Range && (k[i] < m.V || k[i] > m.M) {
			return false
		}
	}
	return true
}

func (m *model) tick(seconds int) api.Errno {
	if seconds < 0 || seconds > 1000000 {
		return api.ErrTime
	}
	for i := range m.macs {
		m.macs[i].Age += seconds
	}
	m.macs = slices.DeleteFunc(m.macs, func(x api.Mac) bool { return x.Age > 300 })
	return api.OK
}

// at tells where a MAC stands in the list, or -1.
func (m *model) at(vlan int, mac string) int {
	return slices.IndexFunc(m.macs, func(x api.Mac) bool { return x.VLAN == vlan && x.MAC == mac })
}

func (m *model) learn(vlan int, mac string, port int) {
	if i := m.at(vlan, mac); i >= 0 {
		m.macs[i].Port, m.macs[i].Age = port, 0
	} else if len(m.macs) < 64 {
		m.macs = append(m.macs, api.Mac{VLAN: vlan, MAC: mac, Port: port})
	}
}

func (m *model) sorted() []api.Mac {
	l := slices.Clone(m.macs)
	slices.SortFunc(l, func(x, y api.Mac) int {
		return cmp.Or(cmp.Compare(x.VLAN, y.VLAN), cmp.Compare(x.MAC, y.MAC))
	})
	return l
}

// modelFrame is a frame as the model carries it: what stands behind its tag is its rest, the type too.
type modelFrame struct {
	to, from   string
	vlan, mark int
	rest       string
	routed     bool
}

func (m *model) frame(port int, data string) ([]api.Out, int) {
	if port < 0 || port >= len(m.native) {
		return nil, api.Unknown
	}
	if len(data) > 600 {
		return nil, api.Long
	}
	hasTag := len(data) >= 14 && data[12] == 129 && data[13] == 0
	if len(data) < 14 || hasTag && len(data) < 18 {
		return nil, api.Short
	}
	if data[6]%2 == 1 {
		return nil, api.Source
	}
	f := modelFrame{to: data[:6], from: data[6:12], vlan: m.native[port], rest: data[12:]}
	if hasTag {
		f.vlan, f.mark, f.rest = int(data[14])%16*256+int(data[15]), int(data[14])/16, data[16:]
	}
	if !hasTag && f.vlan == 0 || hasTag && !slices.Contains(m.tagged[port], f.vlan) {
		return nil, api.Barred
	}
	m.learn(f.vlan, f.from, port)
	isIP := f.rest[:2] == "\x08\x00"
	if isIP && isRight(f.rest[2:]) {
		switch r := m.first(keyOf(f.rest[2:])); r.Action {
		case api.Deny:
			return nil, api.Denied
		case api.Send:
			return m.out(f, []int{r.Port})
		}
	}
	if isIP && m.faces[f.vlan] == f.to {
		var fate int
		if f, fate = m.routedFrame(f); fate != api.Sent {
			return nil, fate
		}
	}
	return m.forward(port, f)
}

func (m *model) routedFrame(f modelFrame) (modelFrame, int) {
	packet := f.rest[2:]
	if !isRight(packet) {
		return f, api.BadIP
	}
	if packet[8] < 2 {
		return f, api.Expired
	}
	for length := 32; length >= 0; length-- {
		way, there := m.routes[[2]int{keyOf(packet)[1] >> (32 - length) << (32 - length), length}]
		if !there {
			continue
		}
		face, there := m.faces[way.vlan]
		if !there {
			return f, api.NoRoute
		}
		hopped := packet[:8] + number(int(packet[8])-1, 1) + packet[9:10] + number(sum(packet[10:12]+"\x01\x00"), 2) + packet[12:]
		return modelFrame{to: way.mac, from: face, vlan: way.vlan, rest: f.rest[:2] + hopped, routed: true}, api.Sent
	}
	return f, api.NoRoute
}

func (m *model) forward(port int, f modelFrame) ([]api.Out, int) {
	if known := m.at(f.vlan, f.to); f.to[0]%2 == 0 && known >= 0 {
		if at := m.macs[known].Port; at != port || f.routed {
			return m.out(f, []int{at})
		}
		return nil, api.Nowhere
	}
	var ports []int
	for i := range m.native {
		if i != port || f.routed {
			ports = append(ports, i)
		}
	}
	return m.out(f, ports)
}

// out tells what goes out at those of some ports that are ones of the VLAN.
func (m *model) out(f modelFrame, ports []int) ([]api.Out, int) {
	var outs []api.Out
	for _, i := range ports {
		if m.native[i] == f.vlan {
			outs = append(outs, out(i, f.to+f.from+f.rest))
		} else if slices.Contains(m.tagged[i], f.vlan) {
			outs = append(outs, out(i, f.to+f.from+tag(f.vlan, f.mark)+f.rest))
		}
	}
	if len(outs) == 0 {
		return nil, api.Nowhere
	}
	return outs, api.Sent
}

// numberAt tells the number of so many bytes.
func numberAt(s string, at, size int) int {
	n := 0
	for i := range size {
		n = n*256 + int(s[at+i])
	}
	return n
}

func isRight(packet string) bool {
	if len(packet) < 20 || packet[0]/16 != 4 {
		return false
	}
	head, total := int(packet[0]%16)*4, numberAt(packet, 2, 2)
	return head >= 20 && total >= head && total <= len(packet) && sum(packet[:head]) == 65535
}

func keyOf(packet string) api.Key {
	k := api.Key{numberAt(packet, 12, 4), numberAt(packet, 16, 4), int(packet[9])}
	head := int(packet[0]%16) * 4
	if (k[2] == 6 || k[2] == 17) && numberAt(packet, 6, 2)%8192 == 0 && numberAt(packet, 2, 2) >= head+4 {
		k[3], k[4] = numberAt(packet, head, 2), numberAt(packet, head+2, 2)
	}
	return k
}
