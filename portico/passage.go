package portico

import (
	"portico/api"
	"portico/frame"
	"portico/packet"
	"portico/routes"
)

// passage is a frame on its way through the switch.
type passage struct {
	port  int
	data  string
	frame frame.Frame
	// packet is the frame's, if that is right.
	packet packet.Packet
	right  bool
	routed bool
	outs   []api.Out
}

// stage is a part of a frame's way: it tells the fate that ends the way there, or goesOn.
type stage func(p *passage) int

// goesOn is no frame's fate.
const goesOn = -1

// pass takes a frame through stages, up to the one that ends its way, or to the last.
func (p *passage) pass(stages ...stage) int {
	for _, through := range stages {
		if fate := through(p); fate != goesOn {
			return fate
		}
	}
	return p.left()
}

// left tells the fate of a frame that has gone out wherever it may.
func (p *passage) left() int {
	if len(p.outs) == 0 {
		return api.Nowhere
	}
	return api.Sent
}

// enter asks for the port at which a frame comes in.
func (s *Switch) enter(p *passage) int {
	if !s.hasPort(p.port) {
		return api.Unknown
	}
	return goesOn
}

// read takes a frame apart.
func (p *passage) read() int {
	if len(p.data) > api.MaxFrame {
		return api.Long
	}
	f, whole := frame.Read(p.data)
	if !whole {
		return api.Short
	}
	if frame.IsGroup(f.From) {
		return api.Source
	}
	p.frame = f
	return goesOn
}

// admit finds the VLAN that a frame is of.
func (s *Switch) admit(p *passage) int {
	at := s.ports[p.port]
	if !p.frame.Tagged {
		p.frame.VLAN = at.native
	}
	if p.frame.VLAN == noVLAN || p.frame.Tagged && !at.hasTagged(p.frame.VLAN) {
		return api.Barred
	}
	return goesOn
}

// learn keeps in mind where a frame came from.
func (s *Switch) learn(p *passage) int {
	s.known.Learn(p.frame.VLAN, p.frame.From, p.port)
	return goesOn
}

// unpack takes a frame's packet apart, if it has one.
func (p *passage) unpack() int {
	if p.isIPv4() {
		p.packet, p.right = packet.Read(p.frame.Rest)
	}
	return goesOn
}

// isIPv4 tells whether a frame's type is that of IPv4.
func (p *passage) isIPv4() bool { return frame.KindOf(p.frame.Type) == frame.IPv4 }

// judge lets the first rule that matches a packet decide.
func (s *Switch) judge(p *passage) int {
	if !p.right {
		return goesOn
	}
	id, err := s.rules.Find(p.packet.Key())
	if err != api.OK {
		return goesOn
	}
	switch v := s.verdicts[id]; v.action {
	case api.Deny:
		return api.Denied
	case api.Send:
		s.leave(p, v.port)
		return p.left()
	}
	return goesOn
}

// route lets a packet that came to its VLAN's face go on by a route.
func (s *Switch) route(p *passage) int {
	if !p.isIPv4() || !s.isForFace(p) {
		return goesOn
	}
	if !p.right {
		return api.BadIP
	}
	if p.packet.TTL() <= 1 {
		return api.Expired
	}
	hop, there := s.routes.Find(p.packet.Destination())
	face, faced := s.faces.Get(hop.VLAN)
	if !there || !faced {
		return api.NoRoute
	}
	p.readdress(hop, face)
	return goesOn
}

// isForFace tells whether a frame is for the face of its VLAN.
func (s *Switch) isForFace(p *passage) bool {
	face, faced := s.faces.Get(p.frame.VLAN)
	return faced && p.frame.To == face
}

// readdress makes a frame the one that carries its packet from a face to a hop.
func (p *passage) readdress(hop routes.Hop, face string) {
	p.routed = true
	p.frame.To, p.frame.From = hop.MAC, face
	p.frame.VLAN, p.frame.Mark = hop.VLAN, 0
	p.frame.Rest = p.packet.Hop()
}

// forward lets a frame go out at the port behind which its destination stands, or at all of its VLAN,
// if none is known. A group's never is: no frame that is learned from came from one.
func (s *Switch) forward(p *passage) int {
	behind, known := s.known.Port(p.frame.VLAN, p.frame.To)
	for at := range s.ports {
		if (at != p.port || p.routed) && (at == behind || !known) {
			s.leave(p, at)
		}
	}
	return goesOn
}

// leave lets a frame go out at a port, if that is one of its VLAN.
func (s *Switch) leave(p *passage, at int) {
	if !s.ports[at].has(p.frame.VLAN) {
		return
	}
	f := p.frame
	f.Tagged = f.VLAN != s.ports[at].native
	p.outs = append(p.outs, api.Out{Port: at, Data: f.Bytes()})
}
